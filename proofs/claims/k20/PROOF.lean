import PyProof.Rows.All
import Wide.All
import OpenK.AllK
import Wide.FinOn
import HandS.ForExc
import HandS.Comp
import HandS.Wide
import HandS.IsInst
import HandS.Property
import HandS.FStr
import HandS.MakeKw
import HandS.MakeKwOnly
import HandS.ExcInit
import HandS.ExcField
import HandS.ExcIs
import HandS.HotCalls
import HandS.OwnEq
import HandS.Evl
import KE.KCallOwn
import HandS.Gcd
import HandS.Walk
import KE.GoesMore
import KE.GoesEnum
import KE.GoesNew
import HandS.ExcOwn
import HandS.Dict
import HandS.Text
import HandS.List
import HandS.Conv
import PyProof.StrOps2
import HandS.Star
import HandS.Sort
import HandS.Style
import HandS.TupAny
import HandS.Deep
import HandS.Flow
import KE.GoesComp
import HandS.TryOnly
import HandS.TryMany
import HandS.Codes
import HandS.ClsMeth
import HandS.SortRule
import HandS.SortInts
import PySem.Challenge.RW_fittingpasts_k20_stays_asked
set_option Elab.async false
set_option linter.all false
set_option maxRecDepth 100000
set_option maxHeartbeats 4000000
/-! own rules: operators that a class of the program defines -/
namespace XR
open PySem PySem.Spec PyProof.Rows L2
section
variable {X : Cx} {CX : CXT} {k : Nat} {C f : Addr} {fd : FuncData} {ps : List Str} {sp : Sp} {E : XK}
/-- the callee runs, somewhere below the body -/
theorem run_at {A : Around} {pins : List (Addr × Obj)} {σ : L2.St} {H : Hp} {s : Shared} {Q : VK} {us : List Value} {vs : List V} (F : FnOk X.prog X.w X.K X.mg X.base CX k f fd ps sp) (hr : Room k A) (hA : A.frames = X.A.frames) (hb : Binds X.K fd ps []) (hx : PassesAt CX X σ E)
    (I : Inv X pins σ H s) (r : Vals vs us) (h : sp vs H Q E) : wpAny (model X.prog X.w) A (call (.ref f) us) (EP X pins σ Q) X.xe s := by
  have hl : us.length = ps.length := by rw [← r.length]; exact F.len _ _ _ _ h
  have e0 : Env0 X.prog X.w X.K X.mg X.base A X.stack s H := by
    have e := I.env0
    exact ⟨by rw [hA]; exact e.frames, e.mod, e.bs, e.bsz, e.funs, e.frf, e.hok, e.bare⟩
  have b := hb s us I.kIn (by rw [List.append_nil]; exact hl)
  rw [List.append_nil] at b
  refine wpAny_call (codeAny_mono (F.run A X.stack s H ⟨us, []⟩ us vs Q E hr e0 b r h) fun r s' hq => ?_)
  cases r with
  | error e => exact hx pins H s e s' I hq
  | ok fl =>
    cases fl with
    | ret u => exact I.after hq
    | next => exact False.elim hq
    | brk => exact False.elim hq
    | cont => exact False.elim hq
/-- an instance of the class at C -/
theorem inst_at {pins : List (Addr × Obj)} {σ : L2.St} {H : Hp} {s : Shared} {a dx : Addr} {fs : List (Str × V)} (I : Inv X pins σ H s) (ha : H a = some (.ins C dx fs)) : ∃ od, PySem.W.InstAt s.heap a (PySem.W.instObj C dx) C (some od) := by
  obtain ⟨mA, J, _⟩ := ins_get I.hok ha
  obtain ⟨od, J, _⟩ := J.look
  exact ⟨od, J⟩
theorem back_of {pins : List (Addr × Obj)} {σ : L2.St} {Q : VK} {v : Value} {s' : Shared} (h : EP X pins σ Q v s') : PySem.W.CmpBack (EP X pins σ Q) v s' := by
  obtain ⟨x, H', I', r, q⟩ := h
  have keep : EP X pins σ Q v s' := ⟨x, H', I', r, q⟩
  cases x with
  | non =>
    obtain rfl : v = Value.none := r
    exact keep
  | bl _ =>
    obtain rfl : v = Value.bool _ := r
    exact keep
  | int _ =>
    obtain ⟨t, rfl⟩ := r
    exact keep
  | str _ =>
    obtain ⟨t, rfl⟩ := r
    exact keep
  | byt _ =>
    obtain ⟨t, rfl⟩ := r
    exact keep
  | flt _ =>
    obtain ⟨t, rfl⟩ := r
    exact keep
  | ref _ =>
    obtain rfl : v = Value.ref _ := r
    exact keep
  | ty _ =>
    obtain rfl : v = Value.type _ := r
    exact keep

/-! ### a op b -/
structure OwnB (K : PySem.W.Frag) (C f : Addr) (op : Operator) : Prop where
  sf : PySem.W.selfFirst K C = true
  hs : PySem.W.findIn K (.ref C) (PySem.dunder op.info.2) = some (some (.ref f))
  hf : PySem.W.isFn K (.ref f) = true
  hr : PySem.W.findIn K (.ref C) (PySem.dunderR op.info.2) = some none
/-- .. an int on the right -/
structure OwnBI (K : PySem.W.Frag) (C : Addr) (op : Operator) : Prop where
  h1 : ∃ fo, PySem.W.findIn K (.type "int") (PySem.dunder op.info.2) = some fo
  h2 : ∃ ro, PySem.W.findIn K (.type "int") (PySem.dunderR op.info.2) = some ro
  sub : PySem.W.subIn K (.type "int") (.ref C) = some false
/-- by the left one's own method: an int or an instance of the same class on the right -/
def rOwnI (C : Addr) (sp : Sp) (E : XK) : R2 := fun x y H Q => ∃ a dx fs i, x = .ref a ∧ y = .int i ∧ H a = some (.ins C dx fs) ∧ sp [.ref a, .int i] H Q E
def rOwnC (C : Addr) (sp : Sp) (E : XK) : R2 := fun x y H Q => ∃ a b dx dy fs gs, x = .ref a ∧ y = .ref b ∧ H a = some (.ins C dx fs) ∧ H b = some (.ins C dy gs) ∧ sp [.ref a, .ref b] H Q E
theorem ownI {op : Operator} {pins : List (Addr × Obj)} {s : Shared} {σ : L2.St} {H : Hp} {x y : V} {v u : Value} {Q : VK} (O : OwnB X.K C f op) (OI : OwnBI X.K C op) (F : FnOk X.prog X.w X.K X.mg X.base CX k f fd ps sp) (hr : Room k X.A) (hb : Binds X.K fd ps []) (hx : PassesAt CX X σ E)
    (I : Inv X pins σ H s) (rx : RelV x v) (ry : RelV y u) (hq : rOwnI C sp E x y H Q) : wpAny (model X.prog X.w) X.A (binaryOp op v u) (EP X pins σ Q) X.xe s := by
  obtain ⟨a, dx, fs, i, rfl, rfl, ha, q⟩ := hq
  cases rx
  obtain ⟨t, rfl⟩ := ry
  obtain ⟨od, J⟩ := inst_at I ha
  obtain ⟨m, hF⟩ := I.fr
  obtain ⟨fo, h1⟩ := OI.h1
  obtain ⟨ro, h2⟩ := OI.h2
  exact PySem.W.ksp_binT (T := "int") hF I.ok.mod.kin J rfl O.sf O.hs O.hf O.hr (.inl rfl) h1 h2 OI.sub
    (thn (run_at (vs := [.ref a, .int i]) F hr rfl hb hx I (.cons rfl (.cons ⟨t, rfl⟩ .nil)) q) fun _ _ z => back_of z)
theorem ownC {op : Operator} {pins : List (Addr × Obj)} {s : Shared} {σ : L2.St} {H : Hp} {x y : V} {v u : Value} {Q : VK} (O : OwnB X.K C f op) (F : FnOk X.prog X.w X.K X.mg X.base CX k f fd ps sp) (hr : Room k X.A) (hb : Binds X.K fd ps []) (hx : PassesAt CX X σ E)
    (I : Inv X pins σ H s) (rx : RelV x v) (ry : RelV y u) (hq : rOwnC C sp E x y H Q) : wpAny (model X.prog X.w) X.A (binaryOp op v u) (EP X pins σ Q) X.xe s := by
  obtain ⟨a, b, dx, dy, fs, gs, rfl, rfl, ha, hb', q⟩ := hq
  cases rx
  cases ry
  obtain ⟨od, J⟩ := inst_at I ha
  obtain ⟨od', J'⟩ := inst_at I hb'
  obtain ⟨m, hF⟩ := I.fr
  exact PySem.W.binop_K hF I.ok.mod.kin J J'.type O.sf O.hs O.hf
    (thn (run_at (vs := [.ref a, .ref b]) F hr rfl hb hx I (.cons rfl (.cons rfl .nil)) q) fun _ _ z => back_of z)
theorem at_of_passes {σ : L2.St} (hx : Passes CX X E) : PassesAt CX X σ E := fun pins H s e s' I c => hx pins σ H s e s' I c
theorem op_ownI {op : Operator} (O : OwnB X.K C f op) (OI : OwnBI X.K C op) (F : FnOk X.prog X.w X.K X.mg X.base CX k f fd ps sp) (hr : Room k X.A) (hb : Binds X.K fd ps []) (hx : Passes CX X E) : OpR X (binaryOp op) (rOwnI C sp E) :=
  fun pins s σ H x y v u Q I rx ry hq => ownI O OI F hr hb (at_of_passes hx) I rx ry hq
theorem op_ownC {op : Operator} (O : OwnB X.K C f op) (F : FnOk X.prog X.w X.K X.mg X.base CX k f fd ps sp) (hr : Room k X.A) (hb : Binds X.K fd ps []) (hx : Passes CX X E) : OpR X (binaryOp op) (rOwnC C sp E) :=
  fun pins s σ H x y v u Q I rx ry hq => ownC O F hr hb (at_of_passes hx) I rx ry hq
/-- .. in a try's body -/
def tOpS (r : L2.St → R2) (ta tb : TE) : TE := fun σ H Q => ta σ H fun x H1 => tb σ H1 fun y H2 => r σ x y H2 Q
theorem pe_opCS {op : Operator} {a b : Expr} {pos : Pos} {ta tb : TE} {ES : L2.St → XK} (O : OwnB X.K C f op) (F : FnOk X.prog X.w X.K X.mg X.base CX k f fd ps sp) (hr : Room k X.A) (hb : Binds X.K fd ps []) (hx : ∀ σ, PassesAt CX X σ (ES σ)) (ha : PE X a ta) (hb2 : PE X b tb) :
    PE X (.BinOp a op b pos) (tOpS (fun σ => rOwnC C sp (ES σ)) ta tb) := by
  refine ⟨fun pins s σ H Q I h => ?_⟩
  exact (wpAny_BinOp (binT ha hb2 I (R := fun x y H2 => rOwnC C sp (ES σ) x y H2 Q) (by exact h) fun v u s1 x y H1 I1 r1 r2 q => ownC O F hr hb (hx σ) I1 r1 r2 q))
/-! ### x in o, x not in o -/
structure OwnM (K : PySem.W.Frag) (C f : Addr) (name : Str) : Prop where
  hs : PySem.W.findIn K (.ref C) name = some (some (.ref f))
  hf : PySem.W.isFn K (.ref f) = true
def rInOwn (C : Addr) (sp : Sp) (E : XK) (neg : Bool) : R2 := fun x y H Q => ∃ a dx fs, y = .ref a ∧ H a = some (.ins C dx fs) ∧ sp [.ref a, x] H (fun v H' => ∃ b, v = .bl b ∧ Q (.bl (if neg then !b else b)) H') E
theorem op_in_own (O : OwnM X.K C f "__contains__") (F : FnOk X.prog X.w X.K X.mg X.base CX k f fd ps sp) (hr : Room k X.A) (hb : Binds X.K fd ps []) (hx : Passes CX X E) : OpR X (compareOp .In) (rInOwn C sp E false) := by
  intro pins s σ H x y v u Q I rx ry hq
  obtain ⟨a, dx, fs, rfl, ha, q⟩ := hq
  cases ry
  obtain ⟨od, J⟩ := inst_at I ha
  obtain ⟨m, hF⟩ := I.fr
  refine PySem.W.in_K hF I.ok.mod.kin J O.hs O.hf (thn (run_at (vs := [.ref a, x]) F hr rfl hb (at_of_passes hx) I (.cons rfl (.cons rx .nil)) q) fun r s' z => ?_)
  obtain ⟨w', H', I', rw', b, rfl, q2⟩ := z
  cases rw'
  exact wpAny_truthy_bool ⟨.bl b, H', I', rfl, q2⟩
theorem op_notIn_own (O : OwnM X.K C f "__contains__") (F : FnOk X.prog X.w X.K X.mg X.base CX k f fd ps sp) (hr : Room k X.A) (hb : Binds X.K fd ps []) (hx : Passes CX X E) : OpR X (compareOp .NotIn) (rInOwn C sp E true) := by
  intro pins s σ H x y v u Q I rx ry hq
  obtain ⟨a, dx, fs, rfl, ha, q⟩ := hq
  cases ry
  obtain ⟨od, J⟩ := inst_at I ha
  obtain ⟨m, hF⟩ := I.fr
  refine PySem.W.notIn_K hF I.ok.mod.kin J O.hs O.hf (thn (run_at (vs := [.ref a, x]) F hr rfl hb (at_of_passes hx) I (.cons rfl (.cons rx .nil)) q) fun r s' z => ?_)
  obtain ⟨w', H', I', rw', b, rfl, q2⟩ := z
  cases rw'
  exact wpAny_truthy_bool ⟨.bl (!b), H', I', rfl, q2⟩
/-! ### a == b, a != b by the class's __eq__ (no __ne__ of its own) -/
structure OwnE (K : PySem.W.Frag) (C f : Addr) : Prop where
  hs : PySem.W.findIn K (.ref C) "__eq__" = some (some (.ref f))
  hf : PySem.W.isFn K (.ref f) = true
  hn : PySem.W.findIn K (.ref C) "__ne__" = some (some (.builtin "object.__ne__"))
  ob : PySem.W.mroIn K C (.type "object") = some true
def rEqOwn (C : Addr) (sp : Sp) (E : XK) (neg : Bool) : R2 := fun x y H Q => ∃ a b dx dy fs gs, x = .ref a ∧ y = .ref b ∧ H a = some (.ins C dx fs) ∧ H b = some (.ins C dy gs) ∧ sp [.ref a, .ref b] H (fun v H' => ∃ c, v = .bl c ∧ Q (.bl (if neg then !c else c)) H') E
theorem op_eq_own (O : OwnE X.K C f) (F : FnOk X.prog X.w X.K X.mg X.base CX k f fd ps sp) (hr : Room k X.A) (hb : Binds X.K fd ps []) (hx : Passes CX X E) : OpR X (compareOp .Eq) (rEqOwn C sp E false) := by
  intro pins s σ H x y v u Q I rx ry hq
  obtain ⟨a, b, dx, dy, fs, gs, rfl, rfl, ha, hb', q⟩ := hq
  cases rx
  cases ry
  obtain ⟨od, J⟩ := inst_at I ha
  obtain ⟨od', J'⟩ := inst_at I hb'
  obtain ⟨m, hF⟩ := I.fr
  refine PySem.W.cmp_K (op := .Eq) (tb := .ref C) hr.units0 hF I.ok.mod.kin J J'.type (by simp [PySem.W.notFirst]) O.hs O.hf ?_
  refine thn (run_at (vs := [.ref a, .ref b]) F hr rfl hb (at_of_passes hx) I (.cons rfl (.cons rfl .nil)) q) fun _ _ z => ?_
  obtain ⟨w', H', I', rw', c, rfl, q2⟩ := z
  cases rw'
  exact (⟨.bl c, H', I', rfl, q2⟩ : EP X pins σ Q (.bool c) _)
theorem objNe_entry {prog : Program} {w : World} {A : Around} {E : Value → Shared → Prop} {K : PySem.W.Frag} {x C f : Addr} {ox : Obj} {od : Option Obj} {b : Value} {s : Shared} {Q : PySem.Fin → Shared → Prop} (hu : A.units < cLine) (Xk : K.In s.heap) (I : PySem.W.InstAt s.heap x ox C od)
    (hs : PySem.W.findIn K (.ref C) "__eq__" = some (some (.ref f))) (hf : PySem.W.isFn K (.ref f) = true)
    (h : wpAny (model prog w) A (call (.ref f) [.ref x, b]) (fun v s' => ∃ c, v = .bool c ∧ Q (.done (.ret (.bool (!c)))) s') E s) :
    wpAny (model prog w) A (Builtin.«object.__ne__» ⟨[.ref x, b], []⟩) Q E s := by
  unfold Builtin.«object.__ne__»
  refine wpAny_bind (wpAny_of_eq (a := ((Value.ref x : Value), [b])) (by first | rfl | (simp only [Builtin.slotArgs]; rfl)) ?_)
  refine wpAny_bind (wpAny_cRoomFor hu ?_)
  refine wpAny_bind (PySem.W.ifBound_K Xk I hs hf (thn h fun v s' z => ?_))
  obtain ⟨c, rfl, q⟩ := z
  exact wpAny_bind (wpAny_truthy_bool (wpAny_pure q))
theorem cmp_ne {prog : Program} {w : World} {A : Around} {E : Value → Shared → Prop} {K : PySem.W.Frag} {x C f : Addr} {ox : Obj} {od : Option Obj} {b : Value} {s : Shared} {Q : Value → Shared → Prop} (hu : A.units + 1 < cLine) (Xk : K.In s.heap) (I : PySem.W.InstAt s.heap x ox C od)
    (hb : PySem.W.Looks (model prog w) s.heap (typeOf b) (.ref C)) (hn : PySem.W.findIn K (.ref C) "__ne__" = some (some (.builtin "object.__ne__"))) (ob : PySem.W.mroIn K C (.type "object") = some true)
    (hs : PySem.W.findIn K (.ref C) "__eq__" = some (some (.ref f))) (hf : PySem.W.isFn K (.ref f) = true)
    (h : wpAny (model prog w) A.in1 (call (.ref f) [.ref x, b]) (fun v s' => ∃ c, v = .bool c ∧ Q (.bool (!c)) s') E s) :
    wpAny (model prog w) A (richCompare .NotEq (.ref x) b) Q E s := by
  have sub : PySem.W.Looks (model prog w) s.heap (isInstance (.ref x) (.type "object")) true := I.type.andThen (PySem.W.looks_mroIn Xk ob)
  have callN : wpAny (model prog w) A (call (.builtin "object.__ne__") [.ref x, b]) (fun v s' => ∃ c, v = .bool c ∧ Q v s') E s := by
    refine wpAny_call (codeAny_call_builtin PySem.F.cmp_object.ne.plain PySem.F.cmpEntry_ne ?_)
    refine @PySem.W.check_slot (model prog w) _ _ s "object.__ne__" "object" "__ne__" (.ref x) [b] [] _ PySem.F.cmpKind_ne PySem.F.cmpSplit_ne sub (PySem.F.cmpArgs_ne _ _) ?_
    refine objNe_entry (A := A.in1) (by show A.units + 1 < cLine; exact hu) Xk I hs hf (thn h fun v s' z => ?_)
    obtain ⟨c, rfl, q⟩ := z
    exact ⟨c, rfl, ⟨!c, rfl, q⟩⟩
  have L1 := PySem.W.looks_findIn (M := model prog w) Xk hn
  have one : wpAny (model prog w) A (tryCompare (.ref x) "__ne__" b) (fun r s' => ∃ v, r = some v ∧ Q v s') E s := by
    unfold tryCompare
    refine wpAny_bind ?_
    simp only [callSpecialIfBound?, bindSpecialIfBound?]
    refine wpAny_holding (wpAny_bind (wpAny_bind (wpAny_bind (I.type.here (L1.here ?_)))))
    simp only [PySem.F.cmp_object.ne.bind]
    refine wpAny_bind (wpAny_askSetting (wpAny_ite ?_))
    have go : wpAny (model prog w) A (do
        let r ← call (.builtin "object.__ne__") ([.ref x] ++ [b])
        pure (some r)) (fun a s' => wpAny (model prog w) A (match a with
          | some Value.notImplemented => pure none
          | none => pure none
          | some v => pure (some v)) (fun r s' => ∃ v, r = some v ∧ Q v s') E s') E s := by
      refine wpAny_bind (thn callN fun v s' z => ?_)
      obtain ⟨c, rfl, q⟩ := z
      exact wpAny_pure (wpAny_pure ⟨_, rfl, q⟩)
    split
    · exact wpAny_bind (wpAny_pure (wpAny_pure (by exact go)))
    · refine wpAny_tryCatch ?_
      exact wpAny_bind (wpAny_pure (wpAny_pure (by exact go)))
  have hu0 : A.units < cLine := Nat.lt_of_succ_lt hu
  unfold richCompare
  simp only [oneThing_ref]
  refine wpAny_holding (wpAny_bind (wpAny_cRoomFor hu0 ?_))
  refine wpAny_bind (I.type.here (wpAny_bind (hb.here ?_)))
  split
  · rename_i q
    simp at q
  · refine wpAny_bind (wpAny_pure ?_)
    simp only [Bool.false_eq_true, if_false]
    refine wpAny_bind (wpAny_mono one (fun r s' z => ?_) fun _ _ e => e)
    obtain ⟨v, rfl, hq⟩ := z
    exact wpAny_pure hq
theorem op_ne_own (O : OwnE X.K C f) (F : FnOk X.prog X.w X.K X.mg X.base CX k f fd ps sp) (hr : Room (k + 1) X.A) (hb : Binds X.K fd ps []) (hx : Passes CX X E) : OpR X (compareOp .NotEq) (rEqOwn C sp E true) := by
  intro pins s σ H x y v u Q I rx ry hq
  obtain ⟨a, b, dx, dy, fs, gs, rfl, rfl, ha, hb', q⟩ := hq
  cases rx
  cases ry
  obtain ⟨od, J⟩ := inst_at I ha
  obtain ⟨od', J'⟩ := inst_at I hb'
  refine cmp_ne (by have := hr.units; omega) I.kIn J J'.type O.hn O.ob O.hs O.hf ?_
  refine thn (run_at (A := X.A.in1) (vs := [.ref a, .ref b]) F hr.in1 rfl hb (at_of_passes hx) I (.cons rfl (.cons rfl .nil)) q) fun _ _ z => ?_
  obtain ⟨w', H', I', rw', c, rfl, q2⟩ := z
  cases rw'
  exact ⟨c, rfl, (⟨.bl (!c), H', I', rfl, q2⟩ : EP X pins σ Q (.bool (!c)) _)⟩
/-! ### str(o) by the class's __str__ -/
def rStrOwn (C : Addr) (sp : Sp) (E : XK) : List V → Hp → VK → Prop := fun vs H Q => ∃ a dx fs, vs = [.ref a] ∧ H a = some (.ins C dx fs) ∧ sp [.ref a] H (fun v H' => ∃ z, v = .str z ∧ Q v H') E
theorem call_str_own (O : OwnM X.K C f "__str__") (F : FnOk X.prog X.w X.K X.mg X.base CX k f fd ps sp) (hr : Room (k + 2) X.A) (hb : Binds X.K fd ps []) (hx : Passes CX X E) : CallR X (.type "str") (rStrOwn C sp E) := by
  intro pins s σ H xs us Q I r hq
  obtain ⟨a, dx, fs, rfl, ha, q⟩ := hq
  cases r with
  | cons rx rr =>
    cases rr
    cases rx
    obtain ⟨od, J⟩ := inst_at I ha
    have hr2 : Room k X.A.in1.in1 := hr.in1.in1
    refine PySem.W.kso_call hr2.units0 I.kIn J O.hs O.hf ?_
    refine thn (run_at (A := X.A.in1.in1) (vs := [.ref a]) F hr2 rfl hb (at_of_passes hx) I (.cons rfl .nil) q) fun _ _ z => ?_
    obtain ⟨w', H', I', rw', z, rfl, q2⟩ := z
    obtain ⟨t, rfl⟩ := rw'
    exact (⟨.str z, H', I', ⟨t, rfl⟩, q2⟩ : EP X pins σ Q (.str z t) _)
/-! ### -o -/
def rNegOwn (C : Addr) (sp : Sp) (E : XK) : V → Hp → VK → Prop := fun x H Q => ∃ a dx fs, x = .ref a ∧ H a = some (.ins C dx fs) ∧ sp [.ref a] H Q E
theorem un_neg_own (O : OwnM X.K C f "__neg__") (F : FnOk X.prog X.w X.K X.mg X.base CX k f fd ps sp) (hr : Room k X.A) (hb : Binds X.K fd ps []) (hx : Passes CX X E) : UnR X (unaryOp .USub) (rNegOwn C sp E) := by
  intro pins s σ H x v Q I rx hq
  obtain ⟨a, dx, fs, rfl, ha, q⟩ := hq
  cases rx
  obtain ⟨od, J⟩ := inst_at I ha
  obtain ⟨m, hF⟩ := I.fr
  exact PySem.W.ksp_neg hF I.ok.mod.kin J O.hs O.hf (run_at (vs := [.ref a]) F hr rfl hb (at_of_passes hx) I (.cons rfl .nil) q)
end
end XR
/-! ### isinstance of a caught error that has a dict of its own -/
namespace XR
open PySem PySem.Spec PySem.Calls PyProof.Rows PySem.W
section
variable {prog : Program} {w : World} {A : Around} {E : Value → Shared → Prop} {s : Shared} {K : Frag} {x D : Addr} {ox od : Obj}
/-- what a class of errors must say, so that isinstance reads its instances rightly (L2.ExcC's facts) -/
abbrev Asks (K : Frag) (D : Addr) : Prop := L2.ExcC K D
theorem excD_class {Q : Option Value → Shared → Prop} (c : Asks K D) (X : K.In s.heap)
    (I : InstAt s.heap x ox D (some od)) (h : Q (some (.ref D)) { s with toks := s.toks + 1 }) :
    wpAny (model prog w) A (getAttr? (.ref x) "__class__") Q E s := by
  have isC : (clsIn K D).isSome = true := by
    obtain ⟨cd, hc, _⟩ := any_some c.hd
    rw [hc] <;> rfl
  have fnd := looks_find (M := model prog w) X I (findObj_data isC c.ha c.hn c.ht)
  obtain ⟨hp, g, d, t, os⟩ := s
  have lt := I.type (M := model prog w)
  have la := looks_findIn (M := model prog w) X c.hg
  have lb := looks_findIn (M := model prog w) X c.hk
  have isB : Looks (model prog w) hp (isInstance (.ref x) (.type "BaseException")) true :=
    lt.andThen (looks_subIn X c.hs)
  have z0 : (false && onTheHeap (Value.builtin "BaseException.__getattribute__")) = false := by
    rfl
  have z2 : (Value.builtin "BaseException.__getattribute__" ==
      Value.builtin "object.__getattribute__") = false := by decide +kernel
  have z1 : (onTheHeap (Value.ref D) && (Value.builtin "BaseException.__getattribute__" ==
      Value.builtin "object.__getattribute__")) = false := by rw [z2, Bool.and_false]
  unfold getAttr? getAttrBy? getAttrBy
  refine wpAny_bind (wpAny_mkText ?_)
  refine wpAny_bind (wpAny_attempt ?_)
  refine wpAny_holding (wpAny_bind (lt.at ?_))
  refine wpAny_bind (la.at ?_)
  show wpAny _ _ (if (onTheHeap (Value.ref D) && (Value.builtin "BaseException.__getattribute__" ==
    Value.builtin "object.__getattribute__")) = true then _ else _) _ _ _
  rw [z1, if_neg (by decide)]
  unfold getAttrByItsOwn hookBefore
  refine wpAny_bind ?_
  rw [if_pos (by rfl : onTheHeap (Value.ref D) = true)]
  refine lb.at (wpAny_bind (wpAny_attempt ?_))
  refine wpAny_holding ?_
  unfold callGetattribute
  rw [z0, if_neg (by decide)]
  unfold boundAndCalled
  rw [PySem.F.excAttr_ValueError.ga.bind]
  refine wpAny_bind (wpAny_pure ?_)
  show wpAny _ _ (call (.builtin "BaseException.__getattribute__")
    [.ref x, .str "__class__" t]) _ _ _
  refine wpAny_call (codeAny_call_builtin PySem.F.excAttr_ValueError.ga.plain
    PySem.F.entry_bexc_ga ?_)
  refine @check_slot (model prog w) _ _ ⟨hp, g, d, t + 1, os⟩ "BaseException.__getattribute__" "BaseException"
    "__getattribute__" (.ref x) [.str "__class__" t] [] _ (by decide +kernel) (by decide +kernel) isB
    (PySem.F.args_bexc_ga _ _) ?_
  unfold Builtin.«object.__getattribute__»
  refine wpAny_bind (wpAny_of_eq (a := ((Value.ref x : Value), [Value.str "__class__" t]))
    (by first | rfl | (simp only [Builtin.slotArgs] <;> rfl)) ?_)
  refine wpAny_bind (wpAny_pure ?_)
  refine wpAny_bind (lt.at (wpAny_bind (fnd.at ?_)))
  show wpAny _ _ (holding [Value.builtin "object.__class__"]
    (call (.builtin "getset_descriptor.__get__") [.builtin "object.__class__", .ref x, .ref D]) >>= ret) _ _ _
  refine wpAny_bind (wpAny_holding ?_)
  refine wpAny_call (class_get (s := ⟨hp, g, d, t + 1, os⟩) (ox := ox) (od := some od) X I c.hm ?_)
  refine wpAny_pure ?_
  show wpAny _ _ (handedOut (.ref D)) _ _ _
  rw [handedOut_of (v := .ref D) (by rfl)]
  first
    | exact wpAny_pure (wpAny_bind (wpAny_pure (wpAny_pure h)))
    | exact wpAny_pure (wpAny_pure h)
    | exact wpAny_pure h
theorem kit_excD (c : Asks K D) : KitX K (.ref x) (.ref D) (fun h => InstAt h x ox D (some od)) where
  ty := fun _ _ _ i => i.type
  it := fun m h X' i => by
    obtain ⟨cd, hc, _⟩ := any_some c.hd
    unfold clsIn at hc
    split at hc
    next c' d' cd' sl' ho =>
      intro A' Q' E' s' k q
      unfold isType loadHead
      refine wpAny_bind (wpAny_loadPart (k _ _ (X' _ _ ho)) ?_)
      exact wpAny_pure q
    next => cases hc
  ne := fun h tp dd its n sl X' htp => by
    obtain ⟨cd, hc, _⟩ := any_some c.hd
    refine Bool.eq_false_iff.mpr fun q => ?_
    obtain rfl : D = tp := Value.ref.inj (beq_iff_eq.mp q)
    unfold clsIn at hc
    split at hc
    next c' d' cd' sl' ho => cases (X' _ _ ho).symm.trans htp
    next => cases hc
  ca := fun X' i q => excD_class c X' i q
end
end XR
namespace XR
open PySem PySem.Spec PyProof.Rows L2
/-! ### a caught error, pinned: isinstance, fields -/
section
variable {X : Cx} {a : Addr} {oe : Obj} {cls : Value} {d : Option Addr}
theorem pinned_inst {pins : List (Addr × Obj)} {s : Shared} {σ : L2.St} {H : Hp} {D dd : Addr} {fs : List (Str × V)}
    (hp : (a, oe) ∈ X.pn) (hz : Zc (.ref D) (some dd) oe) (hf : ∃ vs, oe.data = .fields vs) (I : Inv X pins σ H s)
    (e : H dd = some (.xd fs)) : ∃ od, PySem.W.InstAt s.heap a oe D (some od) ∧ ∃ mA : Str → Option Value,
      (∀ n, PySem.W.lookIn n od = some (mA n)) ∧ ∀ n, RelO (fs.lookup n) (mA n) := by
  have at_ := (I.pin (a, oe) (List.mem_append_left _ hp)).1
  obtain ⟨vs, hv⟩ := hf
  have ok : ObjOk X.prog X.w H s.heap dd (.xd fs) := I.hok dd _ e
  obtain ⟨mA, hns, rel⟩ := ok
  obtain ⟨od, ho, hl⟩ := lookIn_ns hns
  refine ⟨od, ⟨at_, hz.1, ?_, ?_⟩, mA, hl, rel⟩
  · unfold PySem.W.notCls
    rw [hv] <;> rfl
  · rw [hz.2]
    exact ho
def rIsP (K : PySem.W.Frag) (cls : Value) (d : Option Addr) (a : Addr) : List V → Hp → VK → Prop := fun xs H Q =>
  ∃ (D dd : Addr) (fs : List (Str × V)) (c : V) (cv : Value) (b : Bool), cls = .ref D ∧ d = some dd ∧ H dd = some (.xd fs) ∧
    Asks K D ∧ xs = [.ref a, c] ∧ ClsV c cv ∧ PySem.W.kitOne K (.ref D) cv = some b ∧ Q (.bl b) H
def rIsPT (K : PySem.W.Frag) (cls : Value) (d : Option Addr) (a : Addr) : List V → Hp → VK → Prop := fun xs H Q =>
  ∃ (D dd tp : Addr) (fs : List (Str × V)) (cs : List V) (us : List Value) (b : Bool), cls = .ref D ∧ d = some dd ∧ H dd = some (.xd fs) ∧
    Asks K D ∧ xs = [.ref a, .ref tp] ∧ H tp = some (.tup cs) ∧ Paired ClsV cs us ∧ PySem.W.kitAny K (.ref D) us = some b ∧ Q (.bl b) H
theorem call_isP (hp : (a, oe) ∈ X.pn) (hz : Zc cls d oe) (hf : ∃ vs, oe.data = .fields vs) :
    CallR X (.builtin "isinstance") (rIsP X.K cls d a) := by
  intro pins s σ H xs us Q I r h
  obtain ⟨D, dd, fs, c, cv, b, rfl, rfl, e, as, rfl, kc, ek, q⟩ := h
  obtain ⟨u1, u2, rfl, r1, r2⟩ := vals2 r
  obtain rfl : u1 = Value.ref a := r1
  obtain rfl := kc.eq r2
  obtain ⟨od, J, _⟩ := pinned_inst hp hz hf I e
  exact PySem.W.kia_one (kit_excD as) I.kIn J ek (fun z => nomatch z) fun tk => ⟨.bl b, H, I.tok tk, rfl, q⟩
theorem call_isPT (hp : (a, oe) ∈ X.pn) (hz : Zc cls d oe) (hf : ∃ vs, oe.data = .fields vs) :
    CallR X (.builtin "isinstance") (rIsPT X.K cls d a) := by
  intro pins s σ H xs us Q I r h
  obtain ⟨D, dd, tp, fs, cs, ws, b, rfl, rfl, e, as, rfl, hT, kc, ek, q⟩ := h
  obtain ⟨u1, u2, rfl, r1, r2⟩ := vals2 r
  obtain rfl : u1 = Value.ref a := r1
  obtain rfl : u2 = Value.ref tp := r2
  obtain ⟨od, J, _⟩ := pinned_inst hp hz hf I e
  have okT : ObjOk X.prog X.w H s.heap tp (.tup cs) := I.hok tp _ hT
  obtain ⟨_, its, rv, ⟨oc, od2, dt, sl⟩, h1, h2, n, h3⟩ := okT
  dsimp only at h2 h3
  subst h2 h3
  obtain rfl := ClsV.all kc rv
  exact PySem.W.kia_tup (kit_excD as) I.kIn J h1 ek (fun z => nomatch z) fun tk => ⟨.bl b, H, I.tok tk, rfl, q⟩
/-- e.n, e the pinned error -/
def tPf (K : PySem.W.Frag) (a : Addr) (cls : Value) (d : Option Addr) (n : Str) (te : TE) : TE := fun σ H Q => te σ H fun x H1 =>
  ∃ (D dd : Addr) (fs : List (Str × V)) (v : V), x = .ref a ∧ cls = .ref D ∧ d = some dd ∧ H1 dd = some (.xd fs) ∧ XfC K D ∧
    PySem.W.findIn K (.ref D) n = some none ∧ fs.lookup n = some v ∧ Q v H1
theorem pe_pf {e : Expr} {te : TE} {pos : Pos} {n : Str} (hp : (a, oe) ∈ X.pn) (hz : Zc cls d oe) (hf : ∃ vs, oe.data = .fields vs) (he : PE X e te)
    (hb : attributeBase e n X.env (eval e X.env) = eval e X.env := by rfl) : PE X (.Attribute e n pos) (tPf X.K a cls d n te) := by
  refine ⟨fun pins s σ H Q I h => attr_of hb (thn (he.run pins s σ H _ I h) fun u s1 z => ?_)⟩
  obtain ⟨x, H1, I1, rx, D, dd, fs, v, rfl, rfl, rfl, ea, xf, hno, l, q⟩ := z
  obtain rfl : u = Value.ref a := rx
  obtain ⟨od, J, mA, hl, rel⟩ := pinned_inst hp hz hf I1 ea
  have rn := rel n
  rw [l] at rn
  obtain ⟨u, hu, ru⟩ := RelO.some_of rn
  refine HandSPX.exc_get I1.kIn J xf.ga xf.gg xf.exC (PySem.W.findObj_own xf.hdC hno rfl ?_) (handed_of ru) ⟨v, H1, I1.tok _, ru, q⟩
  rw [hl, hu]
end
/-! ### a def called while an error is handled: it raises nothing itself -/
abbrev SpQ := Addr × Obj → Sp
structure FnQ (P : Program) (w : World) (K : PySem.W.Frag) (mg : Str → Option Value) (base : Heap) (k : Nat) (f : Addr) (fd : FuncData) (ps : List Str) (sp : SpQ) : Prop where
  len : ∀ p vs H Q E, sp p vs H Q E → vs.length = ps.length
  run : ∀ (A : Around) (outer : List Env) (s : Shared) (H : Hp) (args : Args) (us : List Value) (vs : List V) (Q : VK) (p : Addr × Obj),
    L2H.RoomH k A → L2H.PinOk outer H s p → Env0 P w K mg base A outer s H → BindsTo s fd args (ps.zip us) → Vals vs us → sp p vs H Q E0 →
    codeAny (model P w) A (.call (.ref f) args) (CR CX0 outer P w H s Q E0) s
section
variable {P : Program} {w : World} {K : PySem.W.Frag} {mg : Str → Option Value} {base : Heap}
theorem okQ {x qual : Str} {st : Stmt} {f : Addr} {fd : FuncData} {N ps : List Str} {k : Nat} {sp : SpQ} (F : Fun K x qual st f fd) (S : FnScope N ps (defScope st))
    (len : ∀ p vs H Q E, sp p vs H Q E → vs.length = ps.length)
    (body : ∀ (cdv : Value) (A : Around) (outer : List Env) (s : Shared) (H : Hp) (vs : List V) (Q : VK) (p : Addr × Obj),
      L2H.RoomH k (A.deeper (envOfC qual (defScope st) s.heap.objs.size f cdv)) → sp p vs H Q E0 →
      ∃ t, PSs (L2H.cxH CX0 P w K mg base N qual (defScope st) f cdv A outer s H E0 p).nox (defBody st) t ∧
        t { nx := fun _ H' => Q .non H', rt := Q } (start N vs) H) : FnQ P w K mg base (k + 1) f fd ps sp := by
  obtain ⟨oc, od, kV, doc, pm, an, cdv, ct, osl, rfl, lk, hcd⟩ := F.ex
  refine ⟨len, fun A outer s H args us vs Q p hr pin e0 hb r hsp => ?_⟩
  have hl := len _ _ _ _ _ hsp
  have old : ∀ b o, base.get? b = some o → s.heap.get? b = some o := fun b o e => (e0.bs b o e).1
  have KX : K.In s.heap := e0.mod.kin.keeps old
  have lim : s.heap.NoLimit := e0.mod.nolimit.keeps old
  have kinds : ∀ y ∈ ps.zip us, (defScope st).names.lookup y.1 = some .local ∨
      ((defScope st).names.lookup y.1 = some .cell ∧ ((cellsFrom (s.heap.objs.size + 1) (defScope st).names []).lookup y.1).isSome = true) := by
    rintro ⟨n, v⟩ hy
    refine (S.par n (List.of_mem_zip hy).1).imp (fun q => q) fun q => ⟨q, ?_⟩
    exact PySem.W.cellsFrom_some _ _ _ (.inl q)
  refine codeAny_call_function hr.depth (KX _ _ lk) rfl S.co S.gen rfl (PySem.W.codeRec_of KX hcd) (hb _ _ _ _ ?_)
  refine wpAny_newFunctionEnv_cells S.kind kinds fun env he s1 x => ?_
  subst he
  refine ⟨lim.keeps x.toInCall.keep, codeAny_func ?_⟩
  obtain ⟨t, ht, hq⟩ := body cdv A outer s H vs Q p (hr.deeper _) hsp
  have I := L2H.inv_startH (CX := CX0) (E := E0) (cd := cdv) (qual := qual) S pin e0 hl r x
  have run := (PSs.nox ht).run [] s1 (start N vs) H _ I hq
  have out : ∀ {σ' : L2.St} {H' : Hp} {v : V} {u : Value} {s' : Shared},
      Inv (L2H.cxH CX0 P w K mg base N qual (defScope st) f cdv A outer s H E0 p) [] σ' H' s' → RelV v u → Q v H' → CE outer P w H s Q u s' :=
    fun J rv q => ⟨_, _, J.os, J.bare, J.base, J.hok, rv, q⟩
  refine wpAny_mono run (fun fl s' z => ?_) fun _ _ z => z
  cases fl with
  | next =>
    obtain ⟨σ', H', J, q⟩ := z
    exact out (v := V.non) (u := Value.none) J rfl q
  | ret u =>
    obtain ⟨v, σ', H', J, rv, q⟩ := z
    exact out J rv q
  | brk => exact z.elim fun _ y => y.elim fun _ y => y.2.elim
  | cont => exact z.elim fun _ y => y.elim fun _ y => y.2.elim
end
section
variable {X : Cx} {k : Nat} {f : Addr} {fd : FuncData} {ps : List Str} {sp : SpQ} {x : Str} {q pos : Pos} {e : Expr} {es : List Expr} {t : TA} {p : Addr × Obj}
def tCallQ (sp : Sp) (t : TA) : TE := fun σ H Q => t σ H fun vs H1 => sp vs H1 Q E0
theorem pe_callQ (F : FnQ X.prog X.w X.K X.mg X.base k f fd ps sp) (hr : L2H.RoomH k X.A) (hp : p ∈ X.pn) (hg : Gl X x) (hm : X.mg x = some (.ref f))
    (hk : PySem.W.keepIn X.K (.ref f) = true) (hb : Binds X.K fd ps []) (ha : PA X (e :: es) t) (hdb : (x == ("__debug__" : Str)) = false := by decide)
    (he : starEach (e :: es) X.env = (false, eval e X.env) :: starEach es X.env := by rfl) (hpl : (backTo pos (starEach es X.env)).any (·.1) = false := by rfl) :
    PE X (.Call (.Name x q) (e :: es) [] pos) (tCallQ (sp p) t) := by
  refine ⟨fun pins s σ H Q I h => wpAny_Call_Name_kw (ld_glob I hg hm ?_ hdb)⟩
  refine PySem.W.callWith_K (h₀ := X.base) I.ok.mod.kin hk (thn (ha.run pos pins s σ H _ I h) fun us s1 z => ?_) he hpl
  obtain ⟨vs, H1, I1, r, hsp⟩ := z
  refine ⟨I1.kIn, ?_⟩
  have hl : us.length = ps.length := r.length.symm.trans (F.len _ _ _ _ _ hsp)
  have b := hb s1 us I1.kIn (by rw [List.append_nil]; exact hl)
  rw [List.append_nil] at b
  obtain ⟨p1, p2, p3, p4, p5⟩ := I1.pin p (List.mem_append_left _ hp)
  have pin : L2H.PinOk X.stack H1 s1 p := ⟨p1, p2, fun hm => (List.mem_cons.mp (I1.stkSub p.1 hm)).elim p3 p4, p5⟩
  refine wpAny_call (codeAny_mono (F.run X.A X.stack s1 H1 ⟨us, []⟩ us vs Q p hr pin I1.env0 b r hsp) fun r s' z => ?_)
  cases r with
  | error e => exact z.elim
  | ok fl =>
    cases fl with
    | ret u => exact I1.after z
    | next => exact z.elim
    | brk => exact z.elim
    | cont => exact z.elim
end
end XR
namespace XR
open PySem PySem.Spec PyProof.Rows L2
/-! ### C(e, ..) where __init__ may raise, the wish told at the caller's slots -/
section
variable {X : Cx} {CX : CXT} {k : Nat} {C f : Addr} {fd : FuncData} {ps : List Str} {sp : Sp} {E : L2.St → XK} {x : Str} {p pos : Pos} {e : Expr} {es : List Expr} {t : TA}
def tMakeS (C : Addr) (sp : Sp) (E : L2.St → XK) (t : TA) : TE := fun σ H Q => t σ H fun vs H1 => ∀ x dx, H1 x = none → H1 dx = none → dx ≠ x →
  sp (.ref x :: vs) (upd (upd H1 dx (.own x)) x (.ins C dx [])) (fun v H2 => v = .non ∧ Q (.ref x) H2) (E σ)
theorem pe_makeS (M : Mk X.K C f) (F : FnOk X.prog X.w X.K X.mg X.base CX k f fd ps sp) (hr : Room (k + 1) X.A) (hg : Gl X x) (hm : X.mg x = some (.ref C)) (hb : Binds X.K fd ps [])
    (hx : ∀ σ, PassesAt CX X σ (E σ)) (ha : PA X (e :: es) t) (hdb : (x == ("__debug__" : Str)) = false := by decide)
    (he : starEach (e :: es) X.env = (false, eval e X.env) :: starEach es X.env := by rfl) (hpl : (backTo pos (starEach es X.env)).any (·.1) = false := by rfl) :
    PE X (.Call (.Name x p) (e :: es) [] pos) (tMakeS C sp E t) := by
  refine ⟨fun pins s σ H Q I h => wpAny_Call_Name_kw (ld_glob I hg hm ?_ hdb)⟩
  refine PySem.W.callWith_K (h₀ := X.base) I.ok.mod.kin M.kp (thn (ha.run pos pins s σ H _ I h) fun us s1 z => ?_) he hpl
  obtain ⟨vs, H1, I1, r, q⟩ := z
  refine ⟨I1.kIn, ?_⟩
  have fr := I1.hok.fresh (a := s1.heap.objs.size) (Nat.le_refl _)
  have fr1 := I1.hok.fresh (a := s1.heap.objs.size + 1) (Nat.le_add_right _ 1)
  have hsp := q (s1.heap.objs.size + 1) s1.heap.objs.size fr1 fr (Nat.ne_of_lt (Nat.lt_succ_self _))
  have I2 := Inv.made (C := C) I1
  have r2 : Vals (V.ref (s1.heap.objs.size + 1) :: vs) (Value.ref (s1.heap.objs.size + 1) :: us) := .cons rfl r
  have hl : (Value.ref (s1.heap.objs.size + 1) :: us).length = ps.length := r2.length.symm.trans (F.len _ _ _ _ hsp)
  have b := hb _ (Value.ref (s1.heap.objs.size + 1) :: us) I2.kIn (by rw [List.append_nil]; exact hl)
  rw [List.append_nil] at b
  have run := F.run _ X.stack _ _ ⟨Value.ref (s1.heap.objs.size + 1) :: us, []⟩ _ _ _ (E σ) (hr.make C us []) (I2.env0.make C us []) b r2 hsp
  refine wpAny_call (make_map (f := f) I1.kIn M.makes M.init (beq_iff_eq.mp M.fn) (codeAny_mono run fun r s' z => ?_))
  cases r with
  | error er => exact hx σ pins _ _ er s' I2 z
  | ok fl =>
    cases fl with
    | ret u =>
      obtain ⟨v, H', I3, rv, ev, q3⟩ := I2.after z
      subst ev
      exact ⟨rv, .ref (s1.heap.objs.size + 1), H', I3, rfl, q3⟩
    | next => exact z.elim
    | brk => exact z.elim
    | cont => exact z.elim
end
end XR
set_option Elab.async false
set_option linter.all false
set_option maxRecDepth 100000
set_option maxHeartbeats 4000000
/-! common lemmas: lists of ints, heaps with one object that changes, errors made and raised -/
namespace XR
open PySem PySem.Spec PyProof.Rows L2
theorem divw {i j : Int} (h : 0 < j) (h2 : j < 2 ^ 63) : CDivW i j := wide_div (b := 63) h (by omega) (by decide) (by decide)
theorem cmul_mod {i j : Int} (h : 0 < j ∧ j < 2 ^ 64) : -(2 ^ 64) < i % j ∧ i % j < 2 ^ 64 := ⟨by have := Int.emod_nonneg i (b := j) (by omega); omega, by have := Int.emod_lt_of_pos i h.1; omega⟩
theorem log_lt {i : Int} (h1 : -(10 ^ 40) < i) (h2 : i < 10 ^ 40) : i.natAbs.log2 < 1920 := by
  have h : i.natAbs < 10 ^ 40 := by omega
  have h3 : (10 : Nat) ^ 40 < 2 ^ 1920 := by decide +kernel
  by_cases z : i.natAbs = 0
  · rw [z]; decide
  · exact (Nat.log2_lt z).mpr (Nat.lt_trans h h3)
/-- a word at which the reading stops (two makers, so that no anonymous one fits) -/
inductive Stop (p : Prop) : Prop where
  | go (h : p)
  | too (h : p)
theorem Stop.out {p : Prop} : Stop p → p
  | .go h => h
  | .too h => h
/-- xs[:n] -/
theorem cutV_take (ns : List Int) (n : Nat) : cutV (ns.map V.int) none (some (n : Int)) = (ns.take n).map V.int := by
  unfold cutV
  have e0 : HT.sIx (ns.map V.int).length 0 none = 0 := rfl
  have e1 : HT.sIx (ns.map V.int).length (ns.map V.int).length (some (n : Int)) = min n (ns.map V.int).length := by
    unfold HT.sIx
    simp
    omega
  rw [e0, e1]
  simp [List.map_take]
theorem get_int {ms : List Int} {i : Nat} {x : V} (h : (ms.map V.int)[i]? = some x) : ∃ z, ms[i]? = some z ∧ x = .int z := by
  rw [List.getElem?_map] at h
  cases e : ms[i]? with
  | none => rw [e] at h; cases h
  | some z => rw [e] at h; exact ⟨z, rfl, (Option.some.inj h).symm⟩
theorem take_one {α : Type} {ms : List α} {i : Nat} {z : α} (h : ms[i]? = some z) : ms.take (i + 1) = ms.take i ++ [z] := by
  rw [List.take_succ, h] <;> rfl
theorem ne_fresh {H : Hp} {a b : Addr} {o : HO} (h : H b = none) (e : H a = some o) : a ≠ b := ne_of_none e h
theorem empty_app (x : Str) : Str.empty ++ x = x := by
  cases x with
  | mk a =>
    show (⟨#[] ++ a⟩ : Str) = ⟨a⟩
    simp
theorem max_if (a c : Int) : (if c > a then c else a) = max a c := by omega
theorem min_if (a c : Int) : (if c < a then c else a) = min a c := by omega
theorem at_ints {cs : List Int} {i : Int} (h0 : 0 ≤ i) (h : i < ((cs.map V.int).length : Nat)) : ∃ z, atI (cs.map V.int) i = some (.int z) := by
  have hl : i.toNat < cs.length := by rw [List.length_map] at h; omega
  refine ⟨cs[i.toNat], at_of (j := i.toNat) (by omega) ?_⟩
  rw [List.getElem?_map, List.getElem?_eq_getElem hl] <;> rfl
/-- the item at a drawn place of a written list -/
theorem at_lt {α : Type} {xs : List α} {i : Int} (h0 : 0 ≤ i) (h : i < (xs.length : Int)) : ∃ x, atI xs i = some x ∧ x ∈ xs := by
  have hl : i.toNat < xs.length := by omega
  refine ⟨xs[i.toNat], ?_, List.getElem_mem hl⟩
  have e := atI_nat (List.getElem?_eq_getElem hl)
  rw [show ((i.toNat : Nat) : Int) = i by omega] at e
  exact e
/-- all but b stands as it stood -/
def ExB (b : Addr) (H H' : Hp) : Prop := ∀ a o, a ≠ b → H a = some o → H' a = some o
theorem ExB.refl {b : Addr} {H : Hp} : ExB b H H := fun _ _ _ e => e
theorem ExB.trans {b : Addr} {H H1 H2 : Hp} (x : ExB b H H1) (y : ExB b H1 H2) : ExB b H H2 := fun a o n e => y a o n (x a o n e)
theorem ExB.same {b : Addr} {H H1 H2 : Hp} (x : ExB b H H1) (y : Same H1 H2) : ExB b H H2 := fun a o n e => y a o (x a o n e)
theorem ExB.of {b : Addr} {H H1 : Hp} (y : Same H H1) : ExB b H H1 := fun a o _ e => y a o e
theorem ExB.upd {b : Addr} {H H' : Hp} {o : HO} (x : ExB b H H') : ExB b H (upd H' b o) := fun a u ha e => by rw [upd_ne ha]; exact x a u ha e
theorem Same.new {H H' : Hp} {p : Addr} {o : HO} (x : Same H H') (h : H' p = none) : Same H (upd H' p o) := fun a u e => by
  have q := x a u e
  rw [upd_ne (ne_of_none q h)]
  exact q
theorem ExB.new {b : Addr} {H H' : Hp} {p : Addr} {o : HO} (x : ExB b H H') (h : H' p = none) : ExB b H (L2.upd H' p o) := fun a u n e => by
  have q := x a u n e
  rw [upd_ne (ne_of_none q h)]
  exact q
/-- nothing stands at p behind either -/
theorem none_back {H H' : Hp} {p : Addr} (x : Same H H') (h : H' p = none) : H p = none := Same.free x h
theorem none_backB {b : Addr} {H H' : Hp} {p : Addr} (x : ExB b H H') (n : p ≠ b) (h : H' p = none) : H p = none := by
  cases e : H p with
  | none => rfl
  | some o => rw [x p o n e] at h; cases h

theorem hot_of {A : Around} {k : Nat} {v : Option Value} (r : Room k A) : L2H.RoomH k (A.mark v) := ⟨r.dp, r.un⟩
/-! ### an error of the program with fields: made, raised -/
/-- what its __init__ leaves -/
def spEx (C : Addr) (fs : List V → Option (List (Str × V))) : Sp := fun vs H Q _ => ∃ (a : Addr) (ws : List V) (l : List (Str × V)), vs = .ref a :: ws ∧ fs ws = some l ∧
  H a = some (exo a C none) ∧ ∀ d H', H d = none → d ≠ a → H' a = some (exo a C (some d)) → H' d = some (exd d l) → (∀ q o, q ≠ a → H q = some o → H' q = some o) → Q .non H'
/-- the wish of what is raised: an error of the class at C with these fields, all else as it stood -/
def Wish (C : Addr) (l : List (Str × V)) (H : Hp) (E : Value → Option Addr → Hp → Prop) : Prop := ∀ d H', H' d = some (.xd l) → Same H H' → E (.ref C) (some d) H'
theorem mk_ex {C : Addr} {fs : List V → Option (List (Str × V))} {vs : List V} {l : List (Str × V)} {H : Hp} {E : XK} (hl : vs.length ≤ 1000) (hf : fs vs = some l) (k : Wish C l H E) :
    vs.length ≤ 1000 ∧ ∀ a, H a = none → spEx C fs (.ref a :: (vs ++ [])) (upd H a (exo a C none))
      (fun v H2 => v = .non ∧ ∃ (d : Addr) (g : List (Str × V)), H2 a = some (exo a C (some d)) ∧ H2 d = some (exd d g) ∧ H d = none ∧ E (.ref C) (some d) (upd (del H2 a) d (.xd g))) (fun _ _ _ => False) := by
  refine ⟨hl, fun a ha => ⟨a, vs, l, by rw [List.append_nil], hf, upd_same, fun d H' hd hda ea ed x => ⟨rfl, d, l, ea, ed, ?_, k d _ upd_same fun q o e => ?_⟩⟩⟩
  · rw [upd_ne hda] at hd
    exact hd
  · have hqa : q ≠ a := ne_of_none e ha
    have hqd : q ≠ d := fun z => by
      rw [upd_ne hda] at hd
      rw [z, hd] at e
      cases e
    rw [upd_ne hqd, del_ne hqa]
    refine x q o hqa ?_
    rw [upd_ne hqa]
    exact e
theorem init_ex1 {K : PySem.W.Frag} {C a : Addr} {f : Str} {v : V} {H : Hp} {Q : Hp → Prop} (oc : OexC K C) (hn : PySem.W.findIn K (.ref C) f = some none) (ha : H a = some (exo a C none))
    (k : ∀ d H', H d = none → d ≠ a → H' a = some (exo a C (some d)) → H' d = some (exd d [(f, v)]) → (∀ q o, q ≠ a → H q = some o → H' q = some o) → Q H') :
    ∃ a' C' : Addr, V.ref a = .ref a' ∧ OexC K C' ∧ PySem.W.findIn K (.ref C') f = some none ∧
      ((H a' = some (exo a' C' none) ∧ ∀ dx, H dx = none → dx ≠ a' → Q (upd (upd H dx (exd dx [(f, v)])) a' (exo a' C' (some dx)))) ∨
        ∃ (dx : Addr) (fs : List (Str × V)), H a' = some (exo a' C' (some dx)) ∧ H dx = some (exd dx fs) ∧ fs.length ≤ 900 ∧ Q (upd H dx (exd dx ((f, v) :: fs)))) := by
  refine ⟨a, C, rfl, oc, hn, .inl ⟨ha, fun dx hd hne => k dx _ hd hne upd_same (by rw [upd_ne hne]; exact upd_same) fun q o hq e => ?_⟩⟩
  rw [upd_ne hq, upd_ne (ne_of_none e hd)]
  exact e
theorem init_ex2 {K : PySem.W.Frag} {C a d : Addr} {f : Str} {v : V} {l : List (Str × V)} {H : Hp} {Q : Hp → Prop} (oc : OexC K C) (hn : PySem.W.findIn K (.ref C) f = some none) (hl : l.length ≤ 900)
    (ha : H a = some (exo a C (some d))) (hd : H d = some (exd d l)) (hda : d ≠ a)
    (k : ∀ H', H' a = some (exo a C (some d)) → H' d = some (exd d ((f, v) :: l)) → (∀ q o, q ≠ a → q ≠ d → H q = some o → H' q = some o) → Q H') :
    ∃ a' C' : Addr, V.ref a = .ref a' ∧ OexC K C' ∧ PySem.W.findIn K (.ref C') f = some none ∧
      ((H a' = some (exo a' C' none) ∧ ∀ dx, H dx = none → dx ≠ a' → Q (upd (upd H dx (exd dx [(f, v)])) a' (exo a' C' (some dx)))) ∨
        ∃ (dx : Addr) (fs : List (Str × V)), H a' = some (exo a' C' (some dx)) ∧ H dx = some (exd dx fs) ∧ fs.length ≤ 900 ∧ Q (upd H dx (exd dx ((f, v) :: fs)))) := by
  refine ⟨a, C, rfl, oc, hn, .inr ⟨d, l, ha, hd, hl, k _ (by rw [upd_ne hda.symm]; exact ha) upd_same fun q o _ hq e => by rw [upd_ne hq]; exact e⟩⟩
end XR
namespace XR
open PySem L2
theorem ifF {c : Bool} {P Q : Prop} (h : c = false) (k : Q) : if c = true then P else Q := by rw [h, if_neg (by decide)]; exact k
theorem ifT {c : Bool} {P Q : Prop} (h : c = true) (k : P) : if c = true then P else Q := by rw [if_pos h]; exact k
end XR
namespace XR
open PySem L2
section
variable {X : Cx} {a b : Addr} {oe : Obj} {cls : Value} {d : Option Addr} {pn : List (Addr × Obj)}
theorem call_isPs (hz : Zc cls d oe) (hf : ∃ vs, oe.data = .fields vs) : CallR (X.suite b ((a, oe) :: pn)) (.builtin "isinstance") (rIsP X.K cls d a) := call_isP List.mem_cons_self hz hf
theorem call_isPTs (hz : Zc cls d oe) (hf : ∃ vs, oe.data = .fields vs) : CallR (X.suite b ((a, oe) :: pn)) (.builtin "isinstance") (rIsPT X.K cls d a) := call_isPT List.mem_cons_self hz hf
theorem pe_pfs {e : Expr} {te : TE} {pos : Pos} {n : Str} (hz : Zc cls d oe) (hf : ∃ vs, oe.data = .fields vs) (he : PE (X.suite b ((a, oe) :: pn)) e te)
    (hb : attributeBase e n (X.suite b ((a, oe) :: pn)).env (eval e (X.suite b ((a, oe) :: pn)).env) = eval e (X.suite b ((a, oe) :: pn)).env := by rfl) : PE (X.suite b ((a, oe) :: pn)) (.Attribute e n pos) (tPf X.K a cls d n te) :=
  pe_pf List.mem_cons_self hz hf he hb
theorem pe_callQs {k : Nat} {f : Addr} {fd : FuncData} {ps : List Str} {sp : SpQ} {x : Str} {q pos : Pos} {e : Expr} {es : List Expr} {t : TA}
    (F : FnQ (X.suite b ((a, oe) :: pn)).prog (X.suite b ((a, oe) :: pn)).w (X.suite b ((a, oe) :: pn)).K (X.suite b ((a, oe) :: pn)).mg (X.suite b ((a, oe) :: pn)).base k f fd ps sp) (hr : L2H.RoomH k (X.suite b ((a, oe) :: pn)).A) (hg : Gl (X.suite b ((a, oe) :: pn)) x) (hm : (X.suite b ((a, oe) :: pn)).mg x = some (.ref f))
    (hk : PySem.W.keepIn (X.suite b ((a, oe) :: pn)).K (.ref f) = true) (hb : Binds (X.suite b ((a, oe) :: pn)).K fd ps []) (ha : PA (X.suite b ((a, oe) :: pn)) (e :: es) t) (hdb : (x == ("__debug__" : Str)) = false := by decide)
    (he : starEach (e :: es) (X.suite b ((a, oe) :: pn)).env = (false, eval e (X.suite b ((a, oe) :: pn)).env) :: starEach es (X.suite b ((a, oe) :: pn)).env := by rfl) (hpl : (backTo pos (starEach es (X.suite b ((a, oe) :: pn)).env)).any (·.1) = false := by rfl) :
    PE (X.suite b ((a, oe) :: pn)) (.Call (.Name x q) (e :: es) [] pos) (tCallQ (sp (a, oe)) t) := pe_callQ (p := (a, oe)) F hr List.mem_cons_self hg hm hk hb ha hdb he hpl
end
end XR
namespace XR
open PySem L2
theorem cong_ts {X : Cx} {ss : List Stmt} {t t' : TS} (h : PSs X ss t) (e : t = t') : PSs X ss t' := e ▸ h
end XR
namespace XR
open PySem L2
theorem kitAny_cons {K : PySem.W.Frag} {t c : Value} {r : List Value} (h : PySem.W.kitOne K t c = some false) (hr : PySem.W.kitAny K t r = some false) : PySem.W.kitAny K t (c :: r) = some false := by
  unfold PySem.W.kitAny
  rw [h]
  exact hr
theorem kitAny_4 {K : PySem.W.Frag} {t a b c d : Value} (h1 : PySem.W.kitOne K t a = some false) (h2 : PySem.W.kitOne K t b = some false) (h3 : PySem.W.kitOne K t c = some false) (h4 : PySem.W.kitOne K t d = some false) : PySem.W.kitAny K t [a, b, c, d] = some false :=
  kitAny_cons h1 (kitAny_cons h2 (kitAny_cons h3 (kitAny_cons h4 rfl)))
end XR
namespace XR
open PySem L2
/-- .. in a comprehension's block -/
theorem ix_listb {X : Cx} {s : Shared} {H : Hp} {sc : Scope} {ce : Env} {fp : List Addr} : IxR (X.blk s H sc ce fp) (rIxL X.K) := ix_list
theorem ix_tupb {X : Cx} {s : Shared} {H : Hp} {sc : Scope} {ce : Env} {fp : List Addr} : IxR (X.blk s H sc ce fp) (rIxT X.K) := ix_tup
end XR
namespace XR
open PySem PySem.Spec PyProof.Rows L2
structure CStat (K : PySem.W.Frag) (C p g : Addr) (m : Str) : Prop where
  rd : PySem.W.readsIn K C (.type "type") = true
  ga : PySem.W.specialIn K (.ref C) "__getattribute__" = some (some (.builtin "type.__getattribute__"))
  at_ : PySem.W.findCls K (.ref C) (.type "type") m = some (.get (.builtin "staticmethod.__get__") (.ref p) .none (.ref C))
  rc : ∃ rest, PySem.W.recIn K p "staticmethod" = some (.ref g :: rest)
section
variable {X : Cx} {pins : List (Addr × Obj)} {σ : L2.St} {H : Hp} {s : Shared} {C p g : Addr} {m : Str} {A : Around} {E : Value → Shared → Prop}
theorem getstat_ok {pl : Sem Bool} {Q : Value × List Value → Shared → Prop} (I : Inv X pins σ H s) (r : CStat X.K C p g m) (h : ∀ s', Inv X pins σ H s' → Q (.ref g, []) s') : wpAny (model X.prog X.w) A (getMethod (.ref C) m pl) Q E s := by
  obtain ⟨rest, hp⟩ := r.rc
  exact PySem.W.method_cls I.kIn r.ga (PySem.W.cls_bind I.kIn r.rd r.at_ (wpAny_call (PySem.W.sm_get (s := { s with toks := s.toks + 1 }) I.kIn hp (PySem.W.handed_on rfl (h _ (I.tok _))))))
end
/-- C.m(..), m a staticmethod; E told at the caller's slots -/
def tStat (C : Addr) (sp : Sp) (E : L2.St → XK) (ta : TE) (t : TA) : TE := fun σ H Q => ta σ H fun x H1 => x = .ref C ∧ t σ H1 fun vs H2 => sp vs H2 Q (E σ)
section
variable {X : Cx} {CX : CXT} {k : Nat} {C p g : Addr} {fd : FuncData} {ps : List Str} {sp : Sp} {ES : L2.St → XK} {o e : Expr} {es : List Expr} {m : Str} {pos apos : Pos} {ta : TE} {t : TA} {pl : Sem Bool}
theorem pe_stat (he : PE X o ta) (r : CStat X.K C p g m) (F : FnOk X.prog X.w X.K X.mg X.base CX k g fd ps sp) (hr : Room k X.A) (hk : PySem.W.keepIn X.K (.ref g) = true) (hb : Binds X.K fd ps []) (hx : ∀ σ, PassesAt CX X σ (ES σ)) (ha : PA X (e :: es) t)
    (hst : starEach (e :: es) X.env = (false, eval e X.env) :: starEach es X.env := by rfl) (hpl : (backTo pos (starEach es X.env)).any (·.1) = false := by rfl)
    (ht : eval (.Call (.Attribute o m apos) (e :: es) [] pos) X.env = (do
      let ov ← eval o X.env
      standAt apos.atName
      let (f, first) ← holding [ov] (getMethod ov m pl)
      callWith pos f first (backTo pos (starEach (e :: es) X.env)) (backToKw pos (keywordEach [] X.env))) := by rfl) :
    PE X (.Call (.Attribute o m apos) (e :: es) [] pos) (tStat C sp ES ta t) := by
  refine ⟨fun pins s σ H Q I h => ?_⟩
  refine PySem.W.methodCall_KW (pl := pl) (thn (he.run pins s σ H _ I h) fun u s1 ⟨x, H1, I1, rx, ex, q⟩ => ?_) ht
  subst ex
  obtain rfl : u = Value.ref C := rx
  refine getstat_ok I1 r fun s2 I2 => ?_
  refine PySem.W.callWith_K (h₀ := X.base) I.ok.mod.kin hk (thn (ha.run pos _ s2 σ H1 _ I2 q) fun us s3 ⟨vs, H2, I3, rv, q2⟩ => ⟨I3.kIn, ?_⟩) hst hpl
  exact run_at F hr rfl hb (hx σ) I3 rv q2
theorem pe_stat0 (he : PE X o ta) (r : CStat X.K C p g m) (F : FnOk X.prog X.w X.K X.mg X.base CX k g fd ps sp) (hr : Room k X.A) (hk : PySem.W.keepIn X.K (.ref g) = true) (hb : Binds X.K fd ps []) (hx : ∀ σ, PassesAt CX X σ (ES σ))
    (ht : eval (.Call (.Attribute o m apos) [] [] pos) X.env = (do
      let ov ← eval o X.env
      standAt apos.atName
      let (f, first) ← holding [ov] (getMethod ov m pl)
      callWith pos f first (backTo pos (starEach [] X.env)) (backToKw pos (keywordEach [] X.env))) := by rfl) :
    PE X (.Call (.Attribute o m apos) [] [] pos) (tStat C sp ES ta tNil) := by
  refine ⟨fun pins s σ H Q I h => ?_⟩
  refine PySem.W.methodCall_KW (pl := pl) (thn (he.run pins s σ H _ I h) fun u s1 ⟨x, H1, I1, rx, ex, q⟩ => ?_) ht
  subst ex
  obtain rfl : u = Value.ref C := rx
  refine getstat_ok I1 r fun s2 I2 => ?_
  exact PySem.W.callWith_K0 I2.kIn hk (run_at (us := []) F hr rfl hb (hx σ) I2 .nil q)
end
end XR
namespace XR
open PySem L2
/-- turns over a range, whatever a turn does -/
theorem turn_range {lo : Int} {n : Nat} {H0 : Hp} {Qd : Hp → Prop} {Body : V → Hp → (Hp → Prop) → Prop} (Pv : Nat → Hp → Prop) (h0 : Pv 0 H0) (hs : ∀ i H, i < n → Pv i H → Body (.int (lo + i)) H (Pv (i + 1))) (hd : ∀ H, Pv n H → Qd H) :
    ∃ W : Nat → Nat → Hp → Prop, (∃ m, W 0 m H0) ∧ ∀ i m H, W i m H →
      ((Itr lo n).stop i H ∧ Qd H) ∨ ((Itr lo n).go i H ∧ ∃ Nx : Hp → Prop, (∀ H', Nx H' → ∃ m', m' < m ∧ W (i + 1) m' H') ∧ ∀ x H', (Itr lo n).yld i H x H' → Body x H' Nx) := by
  refine ⟨fun i m H => m = n - i ∧ i ≤ n ∧ Pv i H, ⟨n, by simp, Nat.zero_le _, h0⟩, ?_⟩
  rintro i m H ⟨rfl, hi, p⟩
  by_cases hlt : i < n
  · refine .inr ⟨hlt, Pv (i + 1), fun H' p' => ⟨n - (i + 1), by omega, rfl, hlt, p'⟩, fun x H' y => ?_⟩
    obtain ⟨e, y⟩ := y
    subst e y
    exact hs i _ hlt p
  · have e : i = n := by omega
    subst e
    exact .inl ⟨Nat.le_refl _, hd H p⟩
end XR
set_option Elab.async false
set_option linter.all false
set_option maxRecDepth 100000
set_option maxHeartbeats 4000000
/-! views: what is settled (G) within the heap (H); data by PyData -/
namespace XR
open PySem PySem.Spec PyProof.Rows L2
theorem SqL.same {K : PySem.W.Frag} {G H : Hp} {a : Addr} {xs : List V} (h : SqL K G a xs) (v : Same G H) : SqL K H a xs := Same.seq v h
theorem SqT.same {K : PySem.W.Frag} {G H : Hp} {a : Addr} {xs : List V} (h : SqT K G a xs) (v : Same G H) : SqT K H a xs := by
  rcases h with h | h
  · rcases h with h | ⟨o, h⟩
    · exact .inl (.inl (v _ _ h))
    · exact .inl (.inr ⟨o, v _ _ h⟩)
  · exact .inr h
mutual
theorem Dp.same {K : PySem.W.Frag} {G H : Hp} (v : Same G H) : ∀ {x : V} {d : PyData}, Dp K G x d → Dp K H x d
  | _, _, .non => .non
  | _, _, .bl b => .bl b
  | _, _, .int i => .int i
  | _, _, .str i => .str i
  | _, _, .lst s a => .lst (SqL.same s v) (DpAll.same v a)
  | _, _, .tup s a => .tup (SqT.same s v) (DpAll.same v a)
theorem DpAll.same {K : PySem.W.Frag} {G H : Hp} (v : Same G H) : ∀ {xs : List V} {ds : List PyData}, DpAll K G xs ds → DpAll K H xs ds
  | _, _, .nil => .nil
  | _, _, .cons a b => .cons (Dp.same v a) (DpAll.same v b)
end
theorem Dp.int_inv {K : PySem.W.Frag} {G : Hp} {x : V} {z : Int} (h : Dp K G x (.int z)) : x = .int z := by cases h; rfl
theorem Dp.bl_inv {K : PySem.W.Frag} {G : Hp} {x : V} {z : Bool} (h : Dp K G x (.bool z)) : x = .bl z := by cases h; rfl
theorem Dp.str_inv {K : PySem.W.Frag} {G : Hp} {x : V} {z : Str} (h : Dp K G x (.str z)) : x = .str z := by cases h; rfl
theorem Dp.non_inv {K : PySem.W.Frag} {G : Hp} {x : V} (h : Dp K G x .none) : x = .non := by cases h; rfl
theorem Dp.lst_inv {K : PySem.W.Frag} {G : Hp} {x : V} {ds : List PyData} (h : Dp K G x (.list ds)) : ∃ p xs, x = .ref p ∧ SqL K G p xs ∧ DpAll K G xs ds := by
  cases h with | lst s a => exact ⟨_, _, rfl, s, a⟩
theorem Dp.tup_inv {K : PySem.W.Frag} {G : Hp} {x : V} {ds : List PyData} (h : Dp K G x (.tuple ds)) : ∃ p xs, x = .ref p ∧ SqT K G p xs ∧ DpAll K G xs ds := by
  cases h with | tup s a => exact ⟨_, _, rfl, s, a⟩
theorem DpAll.length {K : PySem.W.Frag} {G : Hp} : ∀ {xs : List V} {ds : List PyData}, DpAll K G xs ds → xs.length = ds.length
  | _, _, .nil => rfl
  | _, _, .cons _ b => congrArg (· + 1) (DpAll.length b)
theorem DpAll.get {K : PySem.W.Frag} {G : Hp} : ∀ {xs : List V} {ds : List PyData} {i : Nat} {x : V}, DpAll K G xs ds → xs[i]? = some x → ∃ d, ds[i]? = some d ∧ Dp K G x d
  | _, _, _, _, .nil, e => by cases e
  | _, _, 0, _, .cons a _, e => by cases e; exact ⟨_, rfl, a⟩
  | _, _, i + 1, _, .cons _ b, e => DpAll.get (i := i) b e
theorem DpAll.get' {K : PySem.W.Frag} {G : Hp} : ∀ {xs : List V} {ds : List PyData} {i : Nat} {d : PyData}, DpAll K G xs ds → ds[i]? = some d → ∃ x, xs[i]? = some x ∧ Dp K G x d
  | _, _, _, _, .nil, e => by cases e
  | _, _, 0, _, .cons a _, e => by cases e; exact ⟨_, rfl, a⟩
  | _, _, i + 1, _, .cons _ b, e => DpAll.get' (i := i) b e
theorem DpAll.append {K : PySem.W.Frag} {G : Hp} {ys : List V} {es : List PyData} (q : DpAll K G ys es) : ∀ {xs : List V} {ds : List PyData}, DpAll K G xs ds → DpAll K G (xs ++ ys) (ds ++ es)
  | _, _, .nil => q
  | _, _, .cons a b => .cons a (DpAll.append q b)
theorem DpAll.snoc {K : PySem.W.Frag} {G : Hp} {xs : List V} {ds : List PyData} {y : V} {e : PyData} (p : DpAll K G xs ds) (q : Dp K G y e) : DpAll K G (xs ++ [y]) (ds ++ [e]) := DpAll.append (.cons q .nil) p
theorem DpAll.ints {K : PySem.W.Frag} {G : Hp} : ∀ {xs : List V} {ns : List Int}, DpAll K G xs (ns.map PyData.int) → xs = ns.map V.int
  | _, [], .nil => rfl
  | _, _ :: _, .cons a b => by rw [Dp.int_inv a, DpAll.ints b]; rfl
theorem DpAll.of_ints {K : PySem.W.Frag} {G : Hp} : ∀ (ns : List Int), DpAll K G (ns.map V.int) (ns.map PyData.int)
  | [] => .nil
  | n :: r => .cons (.int n) (DpAll.of_ints r)
/-- a pair of ints -/
abbrev pD : Int × Int → PyData := fun c => .tuple [.int c.1, .int c.2]
abbrev pDs (cs : List (Int × Int)) : List PyData := cs.map pD
theorem Dp.pair {K : PySem.W.Frag} {G : Hp} {x : V} {c : Int × Int} (h : Dp K G x (pD c)) : ∃ p, x = .ref p ∧ SqT K G p [.int c.1, .int c.2] := by
  obtain ⟨p, xs, rfl, s, a⟩ := Dp.tup_inv h
  cases a with | cons a1 a2 =>
  cases a2 with | cons b1 b2 =>
  cases b2
  rw [Dp.int_inv a1, Dp.int_inv b1] at s
  exact ⟨p, rfl, s⟩
theorem Dp.mk_pair {K : PySem.W.Frag} {G : Hp} {p : Addr} {a b : Int} (h : SqT K G p [.int a, .int b]) : Dp K G (.ref p) (pD (a, b)) := .tup h (.cons (.int a) (.cons (.int b) .nil))
theorem pairs_get {K : PySem.W.Frag} {G : Hp} {xs : List V} {cs : List (Int × Int)} {i : Nat} {x : V} (h : DpAll K G xs (pDs cs)) (e : xs[i]? = some x) : ∃ c p, cs[i]? = some c ∧ x = .ref p ∧ SqT K G p [.int c.1, .int c.2] ∧ Dp K G (.ref p) (pD c) := by
  obtain ⟨d, hd, q⟩ := DpAll.get h e
  rw [List.getElem?_map] at hd
  cases ec : cs[i]? with
  | none => rw [ec] at hd; cases hd
  | some c =>
    rw [ec] at hd
    cases hd
    obtain ⟨p, rfl, s⟩ := Dp.pair q
    exact ⟨c, p, rfl, rfl, s, q⟩
theorem pairs_at {K : PySem.W.Frag} {G : Hp} {xs : List V} {cs : List (Int × Int)} {i : Nat} {c : Int × Int} (h : DpAll K G xs (pDs cs)) (e : cs[i]? = some c) : ∃ p, xs[i]? = some (.ref p) ∧ SqT K G p [.int c.1, .int c.2] ∧ Dp K G (.ref p) (pD c) := by
  obtain ⟨x, hx, q⟩ := DpAll.get' (i := i) (d := pD c) h (by rw [List.getElem?_map, e]; rfl)
  obtain ⟨p, rfl, s⟩ := Dp.pair q
  exact ⟨p, hx, s, q⟩
/-! ### steps -/
/-- from (G, H) to (G', H'): nothing changes, what is new in the view is new -/
structure Step (G H G' H' : Hp) : Prop where
  vw : Same G' H'
  gg : Same G G'
  hh : Same H H'
  fr : ∀ a, H a ≠ none → G a = none → G' a = none
theorem Step.refl {G H : Hp} (v : Same G H) : Step G H G H := ⟨v, Same.refl _, Same.refl _, fun _ _ e => e⟩
theorem Same.some {H H' : Hp} {a : Addr} (x : Same H H') (h : H a ≠ none) : H' a ≠ none := fun e => h (Same.free x e)
theorem Step.trans {G H G1 H1 G2 H2 : Hp} (a : Step G H G1 H1) (b : Step G1 H1 G2 H2) : Step G H G2 H2 :=
  ⟨b.vw, a.gg.trans b.gg, a.hh.trans b.hh, fun p h e => b.fr p (Same.some a.hh h) (a.fr p h e)⟩
theorem Step.same {G H H' : Hp} (v : Same G H) (x : Same H H') : Step G H G H' := ⟨v.trans x, Same.refl _, x, fun _ _ e => e⟩
theorem Step.more {G H G1 H1 H2 : Hp} (a : Step G H G1 H1) (x : Same H1 H2) : Step G H G1 H2 := a.trans (Step.same a.vw x)
theorem Same.upd2 {G H : Hp} {p : Addr} {o : HO} (v : Same G H) : Same (upd G p o) (upd H p o) := fun q u e => by
  by_cases z : q = p
  · subst z
    rw [upd_same] at e
    rw [upd_same]
    exact e
  · rw [upd_ne z] at e
    rw [upd_ne z]
    exact v _ _ e
theorem Same.add {H : Hp} {p : Addr} {o : HO} (h : H p = none) : Same H (upd H p o) := fun q u e => by rw [upd_ne (ne_of_none e h)]; exact e
theorem fr_add {G H : Hp} {p : Addr} {o : HO} (h : H p = none) : ∀ a, H a ≠ none → G a = none → (upd G p o) a = none := fun a ha e => by
  rw [upd_ne (fun z => ha (by rw [z]; exact h))]
  exact e
/-- a new settled object -/
theorem Step.new {G H : Hp} {p : Addr} {o : HO} (v : Same G H) (h : H p = none) : Step G H (upd G p o) (upd H p o) :=
  ⟨Same.upd2 v, Same.add (Same.free v h), Same.add h, fr_add h⟩
/-- .. made by a callee -/
theorem Step.lift {G H H' : Hp} {p : Addr} {o : HO} (v : Same G H) (h : H p = none) (x : Same H H') (e : H' p = some o) : Step G H (upd G p o) H' :=
  ⟨fun q u z => by
    by_cases n : q = p
    · subst n
      rw [upd_same] at z
      exact e.trans z
    · rw [upd_ne n] at z
      exact x _ _ (v _ _ z), Same.add (Same.free v h), x, fr_add h⟩
/-- a new object that may still change -/
theorem Step.mut {G H : Hp} {p : Addr} {o : HO} (v : Same G H) (h : H p = none) : Step G H G (upd H p o) := Step.same v (Same.add h)
/-- .. changed -/
theorem Step.upd {G H G' H' : Hp} {l : Addr} {o : HO} (s : Step G H G' H') (h : H l = none) (g : G' l = none) : Step G H G' (upd H' l o) :=
  ⟨fun q u e => by rw [upd_ne (ne_of_none e g)]; exact s.vw _ _ e, s.gg, fun q u e => by rw [upd_ne (ne_of_none e h)]; exact s.hh _ _ e, s.fr⟩
/-- .. settled -/
theorem Step.freeze {G H G' H' : Hp} {l : Addr} {o : HO} (s : Step G H G' H') (h : H l = none) (g : G' l = none) (e : H' l = some o) : Step G H (L2.upd G' l o) H' :=
  ⟨fun q u z => by
    by_cases n : q = l
    · subst n
      rw [L2.upd_same] at z
      exact e.trans z
    · rw [upd_ne n] at z
      exact s.vw _ _ z, s.gg.trans (Same.add g), s.hh, fun a ha ea => by rw [upd_ne (fun z => ha (by rw [z]; exact h))]; exact s.fr a ha ea⟩
/-- a list that grows -/
structure Grow (K : PySem.W.Frag) (G H : Hp) (l : Addr) (out : List PyData) (G' H' : Hp) (acc : List V) : Prop where
  st : XR.Step G H G' H'
  nl : H l = none
  gl : G' l = none
  el : H' l = some (.lst acc)
  ds : DpAll K G' acc out
/-- .. somehow -/
def LcI (K : PySem.W.Frag) (G H : Hp) (l : Addr) (out : List PyData) (H' : Hp) : Prop := ∃ G' acc, Grow K G H l out G' H' acc
section
variable {K : PySem.W.Frag} {G H G' H' G1 H1 : Hp} {l : Addr} {out : List PyData} {acc : List V}
theorem Grow.start (v : Same G H) (h : H l = none) : Grow K G H l [] G (upd H l (.lst [])) [] := ⟨Step.mut v h, h, Same.free v h, upd_same, .nil⟩
theorem LcI.start (v : Same G H) (h : H l = none) : LcI K G H l [] (upd H l (.lst [])) := ⟨_, _, Grow.start v h⟩
theorem Grow.len (g : Grow K G H l out G' H' acc) : acc.length = out.length := XR.DpAll.length g.ds
theorem Grow.step (g : Grow K G H l out G' H' acc) (s : Step G' H' G1 H1) : Grow K G H l out G1 H1 acc :=
  ⟨g.st.trans s, g.nl, s.fr _ (by rw [g.el]; exact fun z => by cases z) g.gl, s.hh _ _ g.el, DpAll.same s.gg g.ds⟩
theorem Grow.add (g : Grow K G H l out G' H' acc) {v : V} {d : PyData} (q : Dp K G' v d) : Grow K G H l (out ++ [d]) G' (upd H' l (.lst (acc ++ [v]))) (acc ++ [v]) :=
  ⟨g.st.upd g.nl g.gl, g.nl, g.gl, upd_same, DpAll.snoc g.ds q⟩
/-- a comprehension's turn that adds -/
theorem Grow.push (g : Grow K G H l out G' H' acc) {v : V} {d : PyData} (q : Dp K G' v d) (hl : out.length < sizeLine) :
    ∃ acc, H' l = some (.lst acc) ∧ acc.length < sizeLine ∧ LcI K G H l (out ++ [d]) (upd H' l (.lst (acc ++ [v]))) :=
  ⟨acc, g.el, by rw [g.len]; exact hl, _, _, g.add q⟩
/-- the list is settled -/
theorem Grow.freeze (g : Grow K G H l out G' H' acc) : Step G H (upd G' l (.lst acc)) H' ∧ Dp K (upd G' l (.lst acc)) (.ref l) (.list out) :=
  ⟨g.st.freeze g.nl g.gl g.el, .lst (SqL.of upd_same) (DpAll.same (Same.add g.gl) g.ds)⟩
end
/-! ### steps with one object b that changes (a law's box) -/
structure StB (b : Addr) (G H G' H' : Hp) : Prop where
  vw : Same G' H'
  gg : Same G G'
  gb : G' b = none
  hh : ExB b H H'
section
variable {K : PySem.W.Frag} {b p l : Addr} {G H G1 H1 G2 H2 : Hp} {o : HO} {out : List PyData} {acc : List V}
theorem StB.refl (v : Same G H) (g : G b = none) : StB b G H G H := ⟨v, Same.refl _, g, ExB.refl⟩
theorem StB.trans (s : StB b G H G1 H1) (t : StB b G1 H1 G2 H2) : StB b G H G2 H2 := ⟨t.vw, s.gg.trans t.gg, t.gb, s.hh.trans t.hh⟩
theorem StB.draw (s : StB b G H G1 H1) (x : ExB b H1 H2) : StB b G H G1 H2 :=
  ⟨fun a u e => x a u (fun z => by rw [z, s.gb] at e; cases e) (s.vw a u e), s.gg, s.gb, s.hh.trans x⟩
theorem StB.new (s : StB b G H G1 H1) (h : H1 p = none) (n : p ≠ b) : StB b G H (upd G1 p o) (upd H1 p o) :=
  ⟨Same.upd2 s.vw, s.gg.trans (Same.add (Same.free s.vw h)), by rw [upd_ne n.symm]; exact s.gb, s.hh.new h⟩
theorem StB.mut (s : StB b G H G1 H1) (h : H1 p = none) : StB b G H G1 (upd H1 p o) := ⟨s.vw.trans (Same.add h), s.gg, s.gb, s.hh.new h⟩
theorem StB.upd (s : StB b G H G1 H1) (h : H p = none) (g : G1 p = none) : StB b G H G1 (L2.upd H1 p o) :=
  ⟨fun q u e => by rw [upd_ne (ne_of_none e g)]; exact s.vw _ _ e, s.gg, s.gb, fun q u n e => by rw [upd_ne (ne_of_none e h)]; exact s.hh _ _ n e⟩
theorem StB.step (s : StB b G H G1 H1) (hb : H1 b ≠ none) (t : Step G1 H1 G2 H2) : StB b G H G2 H2 := ⟨t.vw, s.gg.trans t.gg, t.fr _ hb s.gb, s.hh.same t.hh⟩
theorem StB.same (s : StB b G H G1 H1) (t : Same H1 H2) : StB b G H G1 H2 := ⟨s.vw.trans t, s.gg, s.gb, s.hh.same t⟩
theorem StB.freeze (s : StB b G H G1 H1) (n : p ≠ b) (g : G1 p = none) (e : H1 p = some o) : StB b G H (L2.upd G1 p o) H1 :=
  ⟨fun q u z => by
    by_cases n : q = p
    · subst n
      rw [upd_same] at z
      exact e.trans z
    · rw [upd_ne n] at z
      exact s.vw _ _ z, s.gg.trans (Same.add g), by rw [upd_ne n.symm]; exact s.gb, s.hh⟩
/-- a list that grows between the draws -/
structure GrowB (K : PySem.W.Frag) (b : Addr) (G H : Hp) (l : Addr) (out : List PyData) (G' H' : Hp) (acc : List V) : Prop where
  st : StB b G H G' H'
  nl : H l = none
  lb : l ≠ b
  gl : G' l = none
  el : H' l = some (.lst acc)
  ds : DpAll K G' acc out
theorem GrowB.start (s : StB b G H G H) (h : H p = none) (n : p ≠ b) : GrowB K b G H p [] G (L2.upd H p (.lst [])) [] := ⟨s.mut h, h, n, Same.free s.vw h, upd_same, .nil⟩
theorem GrowB.draw (g : GrowB K b G H l out G1 H1 acc) (x : ExB b H1 H2) : GrowB K b G H l out G1 H2 acc := ⟨g.st.draw x, g.nl, g.lb, g.gl, x _ _ g.lb g.el, g.ds⟩
theorem GrowB.new (g : GrowB K b G H l out G1 H1 acc) (h : H1 p = none) (n : p ≠ b) : GrowB K b G H l out (L2.upd G1 p o) (L2.upd H1 p o) acc :=
  have np : l ≠ p := ne_of_none g.el h
  ⟨g.st.new h n, g.nl, g.lb, by rw [upd_ne np]; exact g.gl, by rw [upd_ne np]; exact g.el, DpAll.same (Same.add (Same.free g.st.vw h)) g.ds⟩
theorem GrowB.mut (g : GrowB K b G H l out G1 H1 acc) (h : H1 p = none) : GrowB K b G H l out G1 (L2.upd H1 p o) acc :=
  have np : l ≠ p := ne_of_none g.el h
  ⟨g.st.mut h, g.nl, g.lb, g.gl, by rw [upd_ne np]; exact g.el, g.ds⟩
theorem GrowB.step (g : GrowB K b G H l out G1 H1 acc) (hb : H1 b ≠ none) (t : XR.Step G1 H1 G2 H2) : GrowB K b G H l out G2 H2 acc :=
  ⟨g.st.step hb t, g.nl, g.lb, t.fr _ (by rw [g.el]; exact fun z => by cases z) g.gl, t.hh _ _ g.el, DpAll.same t.gg g.ds⟩
theorem GrowB.add (g : GrowB K b G H l out G1 H1 acc) {v : V} {d : PyData} (q : Dp K G1 v d) : GrowB K b G H l (out ++ [d]) G1 (L2.upd H1 l (.lst (acc ++ [v]))) (acc ++ [v]) :=
  ⟨g.st.upd g.nl g.gl, g.nl, g.lb, g.gl, upd_same, DpAll.snoc g.ds q⟩
theorem GrowB.len (g : GrowB K b G H l out G1 H1 acc) : acc.length = out.length := XR.DpAll.length g.ds
theorem GrowB.freeze (g : GrowB K b G H l out G1 H1 acc) : StB b G H (L2.upd G1 l (.lst acc)) H1 ∧ Dp K (L2.upd G1 l (.lst acc)) (.ref l) (.list out) :=
  ⟨g.st.freeze g.lb g.gl g.el, .lst (SqL.of upd_same) (DpAll.same (Same.add g.gl) g.ds)⟩
end
/-! ### options -/
def oV : Option Int → V
  | none => .non
  | some z => .int z
def oD : Option Int → PyData
  | none => .none
  | some z => .int z
theorem DpAll.opts {K : PySem.W.Frag} {G : Hp} : ∀ (ns : List (Option Int)), DpAll K G (ns.map oV) (ns.map oD)
  | [] => .nil
  | none :: r => .cons .non (DpAll.opts r)
  | some n :: r => .cons (.int n) (DpAll.opts r)
theorem DpAll.opts_inv {K : PySem.W.Frag} {G : Hp} : ∀ {xs : List V} {ns : List (Option Int)}, DpAll K G xs (ns.map oD) → xs = ns.map oV
  | _, [], .nil => rfl
  | _, none :: _, .cons a b => by rw [Dp.non_inv a, DpAll.opts_inv b]; rfl
  | _, some _ :: _, .cons a b => by rw [Dp.int_inv a, DpAll.opts_inv b]; rfl
section
variable {K : PySem.W.Frag} {G H G' H' : Hp} {l : Addr} {acc : List V} {out : List PyData} {α : Type} {cs : List α} {i : Nat} {c : α} {v : V} {d : PyData}
theorem LcI.vw (h : LcI K G H l out H') : Same G H' := let ⟨_, _, g⟩ := h; g.st.gg.trans g.st.vw
theorem LcI.hh (h : LcI K G H l out H') : Same H H' := let ⟨_, _, g⟩ := h; g.st.hh
theorem Grow.vv (g : Grow K G H l out G' H' acc) : Same G H' := g.st.gg.trans g.st.vw
theorem LcI.start_map {f : α → PyData} (v : Same G H) (h : H l = none) : LcI K G H l ((cs.take 0).map f) (upd H l (.lst [])) := LcI.start v h
theorem LcI.start_fm {f : α → Option PyData} (v : Same G H) (h : H l = none) : LcI K G H l ((cs.take 0).filterMap f) (upd H l (.lst [])) := LcI.start v h
theorem Grow.push_map {f : α → PyData} (g : Grow K G H l ((cs.take i).map f) G' H' acc) (hc : cs[i]? = some c) (q : Dp K G' v (f c)) (hl : cs.length ≤ 1000000) :
    ∃ acc, H' l = some (.lst acc) ∧ acc.length < sizeLine ∧ LcI K G H l ((cs.take (i + 1)).map f) (upd H' l (.lst (acc ++ [v]))) := by
  rw [take_one hc, List.map_append]
  refine g.push q ?_
  rw [List.length_map, List.length_take, sizeLine_eq]
  omega
theorem Grow.push_some {f : α → Option PyData} (g : Grow K G H l ((cs.take i).filterMap f) G' H' acc) (hc : cs[i]? = some c) (e : f c = some d) (q : Dp K G' v d) (hl : cs.length ≤ 1000000) :
    ∃ acc, H' l = some (.lst acc) ∧ acc.length < sizeLine ∧ LcI K G H l ((cs.take (i + 1)).filterMap f) (upd H' l (.lst (acc ++ [v]))) := by
  have e2 : (cs.take (i + 1)).filterMap f = (cs.take i).filterMap f ++ [d] := by rw [take_one hc, List.filterMap_append]; simp [e]
  rw [e2]
  refine g.push q ?_
  have := List.length_filterMap_le f (cs.take i)
  rw [List.length_take] at this
  rw [sizeLine_eq]
  omega
theorem Grow.push_none {f : α → Option PyData} (g : Grow K G H l ((cs.take i).filterMap f) G' H' acc) (hc : cs[i]? = some c) (e : f c = none) : LcI K G H l ((cs.take (i + 1)).filterMap f) H' := by
  have e2 : (cs.take (i + 1)).filterMap f = (cs.take i).filterMap f := by rw [take_one hc, List.filterMap_append]; simp [e]
  rw [e2]
  exact ⟨_, _, g⟩
theorem LcI.all_map {f : α → PyData} {n : Nat} (h : LcI K G H l ((cs.take n).map f) H') (e : cs.length ≤ n) : ∃ G' acc, Grow K G H l (cs.map f) G' H' acc := by
  rw [List.take_of_length_le e] at h
  exact h
theorem LcI.all_fm {f : α → Option PyData} {n : Nat} (h : LcI K G H l ((cs.take n).filterMap f) H') (e : cs.length ≤ n) : ∃ G' acc, Grow K G H l (cs.filterMap f) G' H' acc := by
  rw [List.take_of_length_le e] at h
  exact h
end
theorem at0 {α : Type} {x : α} {xs : List α} : atI (x :: xs) 0 = some x := atI_nat (j := 0) rfl
theorem at1 {α : Type} {x y : α} {xs : List α} : atI (x :: y :: xs) 1 = some y := atI_nat (j := 1) rfl
theorem ix_seqb {X : Cx} {s : Shared} {H : Hp} {sc : Scope} {ce : Env} {fp : List Addr} : IxR (X.blk s H sc ce fp) (rIx X.K) := ix_seq
theorem ints_at {P : Int → Prop} (ns : List Int) {i : Int} (h0 : 0 ≤ i) (h : i < (ns.length : Int)) (p : ∀ n ∈ ns, P n) : ∃ z, atI (ns.map V.int) i = some (.int z) ∧ P z := by
  have hl : i.toNat < ns.length := by omega
  refine ⟨ns[i.toNat], at_of (j := i.toNat) (by omega) ?_, p _ (List.getElem_mem hl)⟩
  rw [List.getElem?_map, List.getElem?_eq_getElem hl] <;> rfl
theorem GrowB.base {K : PySem.W.Frag} {b l : Addr} {G0 H0 G H G1 H1 : Hp} {out : List PyData} {acc : List V} (s : StB b G0 H0 G H) (g : GrowB K b G H l out G1 H1 acc) : GrowB K b G0 H0 l out G1 H1 acc :=
  ⟨s.trans g.st, none_backB s.hh g.lb g.nl, g.lb, g.gl, g.el, g.ds⟩
theorem tyT {K : PySem.W.Frag} {H : Hp} {a : Addr} {xs : List V} (h : SqT K H a xs) : TyX K H (.ref a) (.type "tuple") := by
  rcases h with (h | ⟨o, h⟩) | ⟨o, its, n, e, c, _⟩
  · exact .base (.tup h)
  · exact .fTuple h
  · exact .kTuple e c
theorem tyL {K : PySem.W.Frag} {H : Hp} {a : Addr} {xs : List V} (h : SqL K H a xs) : TyX K H (.ref a) (.type "list") := by
  rcases h with (h | ⟨o, h⟩) | ⟨o, its, n, e, c, _⟩
  · exact .base (.lst h)
  · exact .base (.frz h)
  · exact .kList e c
theorem pairs_can : ∀ cs : List (Int × Int), PyData.canLayAll0 (pDs cs) = true
  | [] => rfl
  | _ :: r => by
    show (PyData.canLay0 _ && PyData.canLayAll0 (pDs r)) = true
    rw [pairs_can r]
    rfl
theorem pairs_eqv : ∀ cs : List (Int × Int), PyData.eqvAll (pDs cs) (pDs cs) = true
  | [] => rfl
  | c :: r => by
    show (PyData.eqv (pD c) (pD c) && PyData.eqvAll (pDs r) (pDs r)) = true
    rw [pairs_eqv r]
    simp [PyData.eqv, PyData.eqvAll]
theorem pairs_depth : ∀ cs : List (Int × Int), PyData.depthAll (pDs cs) ≤ 8
  | [] => by decide
  | c :: r => by
    have := pairs_depth r
    show max (PyData.depth (pD c)) (PyData.depthAll (pDs r)) ≤ 8
    have h : PyData.depth (pD c) ≤ 8 := by simp [PyData.depth, PyData.depthAll]
    omega
theorem shaped_pDs (cs : List (Int × Int)) : SeqAt.shaped (.list (pDs cs)) = true := by
  show (PyData.canLayAll0 (pDs cs) && decide (PyData.depthAll (pDs cs) + 1 ≤ 64)) = true
  rw [pairs_can]
  have := pairs_depth cs
  simp
  omega
theorem eqv_pDs (cs : List (Int × Int)) : PyData.eqv (.list (pDs cs)) (.list (pDs cs)) = true := pairs_eqv cs
theorem eqv_nil (cs : List (Int × Int)) : PyData.eqv (.list (pDs cs)) (.list []) = decide (cs = []) := by
  cases cs with
  | nil => rfl
  | cons c r => rfl
theorem same_nil {H : Hp} : Same (fun _ => none) H := fun _ _ e => by cases e
theorem snoc_inj {α : Type} {I J : List α} {x y : α} (h : I ++ [x] = J ++ [y]) : I = J ∧ x = y := by
  have := List.append_inj' h rfl
  exact ⟨this.1, by simpa using this.2⟩
theorem DpAll.snoc_inv {K : PySem.W.Frag} {G : Hp} {d : PyData} : ∀ {ds : List PyData} {xs : List V}, DpAll K G xs (ds ++ [d]) → ∃ ys y, xs = ys ++ [y] ∧ DpAll K G ys ds ∧ Dp K G y d
  | [], _, .cons a .nil => ⟨[], _, rfl, .nil, a⟩
  | _ :: r, _, .cons a b => by
    obtain ⟨ys, y, rfl, q, z⟩ := DpAll.snoc_inv (ds := r) b
    exact ⟨_ :: ys, y, rfl, .cons a q, z⟩
theorem ixN_last {α : Type} (xs : List α) (v : α) : ixN (xs ++ [v]).length (-1) = some xs.length := by
  unfold ixN
  rw [if_neg (by decide), if_pos (by rw [List.length_append]; simp; omega), List.length_append]
  congr 1
  simp
  omega
theorem set_last {α : Type} (xs : List α) (v w : α) : (xs ++ [v]).set xs.length w = xs ++ [w] := by
  rw [List.set_append_right _ _ (Nat.le_refl _), Nat.sub_self]
  rfl
section
variable {K : PySem.W.Frag} {G H G' H' : Hp} {l : Addr} {out : List PyData} {acc : List V} {d e : PyData} {v : V}
/-- the list's last item is set -/
theorem Grow.setLast (g : Grow K G H l (out ++ [d]) G' H' acc) (q : Dp K G' v e) : ∃ j, ixN acc.length (-1) = some j ∧ Grow K G H l (out ++ [e]) G' (L2.upd H' l (.lst (acc.set j v))) (acc.set j v) := by
  obtain ⟨ys, y, rfl, a, b⟩ := DpAll.snoc_inv g.ds
  refine ⟨ys.length, ixN_last _ _, ?_⟩
  rw [set_last]
  exact ⟨g.st.upd g.nl g.gl, g.nl, g.gl, upd_same, DpAll.snoc a q⟩
end
theorem op_in_seqb {X : Cx} {s : Shared} {H : Hp} {sc : Scope} {ce : Env} {fp : List Addr} : OpR (X.blk s H sc ce fp) (compareOp .In) (rIn X.K false) := op_in_seq
theorem op_notIn_seqb {X : Cx} {s : Shared} {H : Hp} {sc : Scope} {ce : Env} {fp : List Addr} : OpR (X.blk s H sc ce fp) (compareOp .NotIn) (rIn X.K true) := op_notIn_seq
theorem inV_ints (z : Int) : ∀ ns : List Int, inV (.int z) (ns.map V.int) = decide (z ∈ ns)
  | [] => rfl
  | n :: r => by
    have ih := inV_ints z r
    unfold inV at *
    rw [List.map_cons, List.any_cons, ih, Bool.eq_iff_iff]
    have e : eqV (.int n) (.int z) = decide (n = z) := by
      show (n == z) = decide (n = z)
      rw [Bool.eq_iff_iff]
      simp
    rw [e]
    simp only [Bool.or_eq_true, decide_eq_true_eq, List.mem_cons]
    exact or_congr_left ⟨Eq.symm, Eq.symm⟩
theorem flat_ints : ∀ ns : List Int, (ns.map V.int).all flatV = true
  | [] => rfl
  | _ :: r => by
    rw [List.map_cons, List.all_cons, flat_ints r]
    rfl
theorem ints_can : ∀ ns : List Int, PyData.canLayAll0 (ns.map PyData.int) = true
  | [] => rfl
  | _ :: r => by
    show (PyData.canLay0 _ && PyData.canLayAll0 (r.map PyData.int)) = true
    rw [ints_can r]
    rfl
theorem ints_depth : ∀ ns : List Int, PyData.depthAll (ns.map PyData.int) ≤ 8
  | [] => by decide
  | c :: r => by
    have := ints_depth r
    show max (PyData.depth (.int c)) (PyData.depthAll (r.map PyData.int)) ≤ 8
    have h : PyData.depth (.int c) ≤ 8 := by simp [PyData.depth]
    omega
theorem shaped_ints (ns : List Int) : SeqAt.shaped (.list (ns.map PyData.int)) = true := by
  show (PyData.canLayAll0 (ns.map PyData.int) && decide (PyData.depthAll (ns.map PyData.int) + 1 ≤ 64)) = true
  rw [ints_can]
  have := ints_depth ns
  simp
  omega
theorem eqv_ints : ∀ ns : List Int, PyData.eqv (.list (ns.map PyData.int)) (.list (ns.map PyData.int)) = true := by
  have h : ∀ ns : List Int, PyData.eqvAll (ns.map PyData.int) (ns.map PyData.int) = true := fun ns => by
    induction ns with
    | nil => rfl
    | cons c r ih =>
      show (PyData.eqv (.int c) (.int c) && PyData.eqvAll (r.map PyData.int) (r.map PyData.int)) = true
      rw [ih]
      simp [PyData.eqv]
  exact h
theorem eqv_empty (ds : List PyData) : PyData.eqv (.list ds) (.list []) = ds.isEmpty := by
  cases ds <;> rfl
end XR
set_option Elab.async false
set_option linter.all false
set_option maxRecDepth 100000
set_option maxHeartbeats 4000000
/-! walks over a list or a tuple, also in enumerate and zip -/
namespace XR
open PySem PySem.Spec PyProof.Rows L2
/-- a list (k) or a tuple -/
def SqK (K : PySem.W.Frag) (k : Bool) (H : Hp) (a : Addr) (xs : List V) : Prop := if k then SqL K H a xs else SqT K H a xs
def IsSq (k : Bool) (h : Heap) (a : Addr) (items : Array Value) : Prop := if k then h.IsList a items else h.IsTuple a items
def IsSqIter (k : Bool) (h : Heap) (it a : Addr) (i : Nat) : Prop := if k then h.IsListIter it a i else h.IsTupleIter it a i
def sqObj (k : Bool) (a : Addr) : Obj := if k then { cls := .type "list_iterator", data := .fields #[.ref a, .int 0 0] } else { cls := .type "tuple_iterator", data := .fields #[.ref a, .int 0 0] }
theorem SqK.same {K : PySem.W.Frag} {k : Bool} {G H : Hp} {a : Addr} {xs : List V} (h : SqK K k G a xs) (v : Same G H) : SqK K k H a xs := by
  cases k
  · exact SqT.same h v
  · exact SqL.same h v
theorem draws_sq {prog : Program} {w : World} {A : Around} (hh : A.handled = none) (k : Bool) (it a : Addr) (hne : a ≠ it) (items : Array Value) :
    Draws prog w A it [it, a] items.size (fun i v => items[i]? = some v) (fun i h => IsSqIter k h it a i ∧ IsSq k h a items) := by
  cases k
  · exact Draws.tuple hh it a hne items
  · exact Draws.list hh it a hne items
theorem begins_sq (k : Bool) (a : Addr) (items : Array Value) : Begins (.ref a) (sqObj k a) fun h => IsSq k h a items := by
  cases k
  · exact begins_tuple a items
  · exact begins_list a items
theorem iter_at {k : Bool} {h : Heap} {it a : Addr} {i : Nat} (st : IsSqIter k h it a i) : ∃ (o : Obj) (fs : Array Value), h.get? it = some o ∧ o.data = .fields fs := by
  cases k <;> exact (let ⟨o, e, _, d⟩ := st; ⟨o, _, e, d⟩)
theorem iter_keep {k : Bool} {h h' : Heap} {it a : Addr} {i : Nat} (st : IsSqIter k h it a i) (c : ∀ o, h.get? it = some o → h'.get? it = some o) : IsSqIter k h' it a i := by
  cases k <;> exact (let ⟨o, e, r⟩ := st; ⟨o, c o e, r⟩)
theorem iter_new {k : Bool} {h : Heap} {it a : Addr} (e : h.get? it = some (sqObj k a)) : IsSqIter k h it a 0 := by
  cases k <;> exact ⟨_, e, rfl, rfl⟩
theorem sq_at {k : Bool} {h : Heap} {a : Addr} {items : Array Value} (st : IsSq k h a items) : ∃ (o : Obj) (n : Nat), h.get? a = some o ∧ o.data = .seq items n := by
  cases k <;> exact (let ⟨o, e, _, n, d⟩ := st; ⟨o, n, e, d⟩)
theorem sq_ne {k k' : Bool} {h : Heap} {it a b : Addr} {i : Nat} {items : Array Value} (q : IsSq k h a items) (st : IsSqIter k' h it b i) : a ≠ it := fun z => by
  obtain ⟨o, n, e, d⟩ := sq_at q
  obtain ⟨o', fs, e', d'⟩ := iter_at st
  rw [z, e'] at e
  cases e
  rw [d] at d'
  cases d'
theorem inv_sq {X : Cx} {pins : List (Addr × Obj)} {σ : L2.St} {H : Hp} {s : Shared} {k : Bool} {a : Addr} {xs : List V} (I : Inv X pins σ H s) (h : SqK X.K k H a xs) : ∃ its : List Value, Vals xs its ∧ IsSq k s.heap a its.toArray ∧ a < s.heap.objs.size := by
  cases k
  · obtain ⟨its, r, p, _⟩ := I.tuple h
    have p' : s.heap.IsTuple a its.toArray := p
    exact ⟨its, r, p', (let ⟨o, e, _⟩ := p'; Heap.lt_size e)⟩
  · obtain ⟨its, r, p, _⟩ := I.list h
    exact ⟨its, r, p.isList, p.lt⟩
theorem inv_inj {X : Cx} {pins : List (Addr × Obj)} {σ : L2.St} {H : Hp} {s : Shared} {k : Bool} {a : Addr} {xs ys : List V} (I : Inv X pins σ H s) (h : SqK X.K k H a xs) (h' : SqK X.K k H a ys) : xs = ys := by
  cases k
  · exact I.tuple_inj h h'
  · exact I.list_inj h h'
/-! ### enumerate -/
set_option maxHeartbeats 1000000 in
theorem meets_enum1 {v : Value} {o : Obj} {H : Heap → Prop} (B : Begins v o H) :
    Meets (Builtin.«enumerate.__new__» ⟨[.type "enumerate", v], []⟩) (fun _ R s => H s.heap ∧
      R (.ok (.ret (.ref (s.heap.push o).objs.size))) { s with heap := (s.heap.push o).push { cls := .type "enumerate", data := .fields #[.none, .bool false, .ref s.heap.objs.size, rawInt 0, .none, .none] } }) :=
  .of_wp fun prog w A R s h => by
    obtain ⟨hp, g, d, tk, os⟩ := s; obtain ⟨h1, h⟩ := h
    have hsub := sub_enumerate
    have q1 : ∀ {A' : Around} {E : Value → Shared → Prop} {Q : Value → Shared → Prop}, Q (.ref hp.objs.size) ⟨hp.push o, g, d, tk, os⟩ → wpAny (model prog w) A' (pyIter v) Q E ⟨hp, g, d, tk, os⟩ :=
      fun q => B.iter prog w _ _ ⟨hp, g, d, tk, os⟩ _ h1 q
    wp_walk using q1
    refine wpAny_stack_any fun st => wpAny_pure ?_
    split
    · rename_i c _ _ _ _ _
      cases (c == Value.type "enumerate")
      · wp_walk using q1
        exact ⟨_, rfl, h⟩
      · wp_walk using q1
        exact ⟨_, rfl, h⟩
    · wp_walk using q1
      exact ⟨_, rfl, h⟩
theorem call_enum1 {prog : Program} {w : World} {A : Around} {E : Value → Shared → Prop} {s : Shared} {v : Value} {o : Obj} {H : Heap → Prop} {Q : Value → Shared → Prop} (B : Begins v o H) (h1 : H s.heap)
    (h : ∀ h', IsEnum h' (s.heap.objs.size + 1) s.heap.objs.size 0 .none → h'.get? s.heap.objs.size = some o → h'.objs.size = s.heap.objs.size + 2 →
      (∀ b o, s.heap.get? b = some o → h'.get? b = some o) → Q (.ref (s.heap.objs.size + 1)) { s with heap := h' }) :
    wpAny (model prog w) A (call (.type "enumerate") [v]) Q E s := by
  refine callType_new F.called_enumerate (by decide) (F.typeCall_enumerate_1 _) (F.newCall_enumerate_1 _) (fun obj => F.args_object_init_2 obj _) F.entry_enumerate_new
    (meets_enum1 B) ⟨h1, ?_⟩
  have hz : (s.heap.push o).objs.size = s.heap.objs.size + 1 := Heap.size_push ..
  show _ ∧ _
  rw [hz]
  have he : IsEnum ((s.heap.push o).push { cls := .type "enumerate", data := .fields #[.none, .bool false, .ref s.heap.objs.size, rawInt 0, .none, .none] }) (s.heap.objs.size + 1) s.heap.objs.size 0 .none := by
    have := Heap.get?_push_size (s.heap.push o) (o := { cls := .type "enumerate", data := .fields #[.none, .bool false, .ref s.heap.objs.size, rawInt 0, .none, .none] }) rfl
    rw [hz] at this; exact this
  refine ⟨⟨_, he, rfl⟩, h _ he (Heap.get?_push_of_some _ (Heap.get?_push_size _ B.free)) (by rw [Heap.size_push, hz]) fun b o x => Heap.get?_push_of_some _ (Heap.get?_push_of_some _ x)⟩
theorem wpAny_pyNext_enum_endDK {prog : Program} {w : World} {A : Around} {E : Value → Shared → Prop} {s : Shared} {e it l : Addr} {i : Nat} {c : Int} {items : Array Value} {old : Value} {Q : Option Value → Shared → Prop} (hh : A.handled = none)
    (he : IsEnum s.heap e it c old) (hit : s.heap.IsTupleIter it l i) (hl : s.heap.IsTuple l items) (hx : items[i]? = none)
    (hQ : ∀ h', Heap.ExtBut it s.heap h' → Q none { s with heap := h' }) : wpAny (model prog w) A (pyNext (.ref e)) Q E s := by
  have hT : s.TypeIs (.ref e) "enumerate" := ⟨_, he, rfl⟩
  unfold pyNext
  refine wpAny_bind (wpAny_attempt (wpAny_callSpecial?_slot (name := Str.ofString "__next__") hT F.slot_enumerate_next
    (wpAny_call_entry F.slot_enumerate_next hT F.entry_enumerate_next ?_ (F.args_enumerate_next_1 _))))
  show wpAny _ _ (field (.ref e) 2 >>= _) _ _ _
  refine wpAny_bind (wpAny_field he rfl (x := .ref it) rfl ?_)
  refine wpAny_bind (wpAny_nextOf_tuple_end hh hit hl hx fun h' x he' hx' => ?_)
  obtain ⟨o, ho, hc⟩ := hx'
  refine wpAny_bind (wpAny_isInstance (T := "StopIteration") (b := true) ⟨o, ho, hc⟩ isSubtype_stop ?_)
  exact wpAny_pure (hQ _ he')
/-- a new pair at a turn -/
def ItK2 (go : Nat → Hp → Prop) (at_ : Nat → Hp → V → V → Prop) (stop : Nat → Hp → Prop) : It :=
  ⟨go, fun i H v H' => ∃ T x y, v = .ref T ∧ H T = none ∧ H' = upd H T (.tup [x, y]) ∧ at_ i H x y, stop⟩
def IteK (K : PySem.W.Frag) (k : Bool) (a : Addr) : It :=
  ItK2 (fun i H => ∃ (xs : List V) (x : V), SqK K k H a xs ∧ xs[i]? = some x) (fun i H x y => x = .int (i : Nat) ∧ ∀ xs, SqK K k H a xs → xs[i]? = some y) (fun i H => ∃ xs : List V, SqK K k H a xs ∧ xs.length ≤ i)
theorem enum_ne {h : Heap} {e it : Addr} {i : Int} {old : Value} {k : Bool} {a : Addr} {items : Array Value} (he : IsEnum h e it i old) (q : IsSq k h a items) : e ≠ a := fun z => by
  obtain ⟨o, n, e', d⟩ := sq_at q
  have he' : h.get? e = some _ := he
  rw [← z, he'] at e'
  cases e'
  cases d
theorem turn_enumK {P : Program} {w : World} {K : PySem.W.Frag} {elts : List Expr} {kk : Nat} {tpos : Pos} (k : Bool) (a e it : Addr) :
    Turn P w K (.Tuple elts kk tpos) (IteK K k a) [e, it] e (fun i h => (∃ old, IsEnum h e it ((i : Nat) : Int) old) ∧ IsSqIter k h it a i ∧ e ≠ it) where
  mem := by simp
  obj := fun i h st b hb => by
    obtain ⟨⟨old, he⟩, hi, _⟩ := st
    obtain ⟨o, fs, ho, hd⟩ := iter_at hi
    have e' : b = e ∨ b = it := by simpa using hb
    rcases e' with z | z
    · rw [z]; exact ⟨_, he, fun v q => nomatch q⟩
    · rw [z]; exact ⟨o, ho, fun v q => by rw [hd] at q; cases q⟩
  keep := fun i h h' st c => let ⟨⟨old, he⟩, hi, hne⟩ := st; ⟨⟨old, c e (by simp) _ he⟩, iter_keep hi fun o q => c it (by simp) o q, hne⟩
  item := by
    intro X hP hw hK hc i pins s σ H E I hf st hg
    subst hP hw hK
    obtain ⟨⟨old, he⟩, hit, hne⟩ := st
    obtain ⟨xs, x, hq, hx⟩ := hg
    obtain ⟨its, rv, p, hlt⟩ := inv_sq I hq
    obtain ⟨u, hu, ru⟩ := rv.get hx
    have hel : e < s.heap.objs.size := Heap.lt_size (show s.heap.get? e = some _ from he)
    have hil : it < s.heap.objs.size := by obtain ⟨_, _, q, _⟩ := iter_at hit; exact Heap.lt_size q
    have Gs := GoesN.enumFrom (elts := elts) (x1 := kk) (pos := tpos) 0 (draws_sq (prog := X.prog) (w := X.w) (A := X.A.in1) (show X.A.in1.handled = none from I.ok.hd hc) k it a (sq_ne p hit) its.toArray) e hne (by
      intro hm
      rcases List.mem_cons.mp hm with z | z
      · exact hne z
      · exact enum_ne he p (List.mem_singleton.mp z)) (by simp)
    have hil2 : i < its.toArray.size := by
      have := (List.getElem?_eq_some_iff.mp hu).1
      simpa using this
    refine Gs.goes i s _ E hil2 ⟨⟨old, by rw [Int.zero_add]; exact he⟩, hit, p⟩ fun v h' tk Y st' hk htk => ?_
    obtain ⟨T, t, y, rfl, hTn, hy, hT⟩ := Y
    obtain ⟨⟨old', he'⟩, hit', _⟩ := st'
    have ey : y = u := by
      have h3 : its.toArray[i]? = some u := by simpa using hu
      rw [hy] at h3
      exact Option.some.inj h3
    subst ey
    have new : ObjOk X.prog X.w (upd H T (.tup [.int (i : Nat), x])) h' T (.tup [.int (i : Nat), x]) :=
      ⟨by show 2 ≤ sizeLine; decide, [.int (0 + (i : Int)) t, y], .cons ⟨t, by rw [Int.zero_add]⟩ (.cons ru .nil), hT⟩
    have I1 : Inv X pins σ (upd H T (.tup [.int (i : Nat), x])) { s with heap := h', toks := tk } := I.turnedNew (ch := [e, it]) hk hf hTn new
    refine ⟨.ref T, _, I1, rfl, ⟨T, _, x, rfl, I.hok.fresh hTn, rfl, rfl, fun ys hy => by rw [inv_inj I hy hq]; exact hx⟩, ⟨⟨old', ?_⟩, hit', hne⟩, fun b hb => ?_⟩
    · rw [Int.zero_add] at he'
      exact he'
    · have hb' : b < s.heap.objs.size := by
        have e' : b = e ∨ b = it := by simpa using hb
        rcases e' with z | z
        · rw [z]; exact hel
        · rw [z]; exact hil
      rw [upd_ne (Nat.ne_of_lt (Nat.lt_of_lt_of_le hb' hTn))]
      exact (hf b hb).1
  done := by
    intro X hP hw hK hc i pins s σ H E I hf st hg
    subst hP hw hK
    obtain ⟨⟨old, he⟩, hit, hne⟩ := st
    obtain ⟨xs, hq, hx⟩ := hg
    obtain ⟨its, rv, p, hlt⟩ := inv_sq I hq
    have hl := rv.length
    cases k
    · refine wpAny_pyNext_enum_endDK (I.ok.hd hc) he hit p (by simp; omega) fun h' eb => ⟨rfl, ?_⟩
      obtain ⟨f0, f1, f2, f3, f4, f5⟩ := hf it (by simp)
      exact I.turned (t' := s.toks) (fun b o hb q => eb b o hb q) f0 f1 f3 f4 f5
    · refine wpAny_pyNext_enum_end (I.ok.hd hc) he hit p (by simp; omega) fun h' eb => ⟨rfl, ?_⟩
      obtain ⟨f0, f1, f2, f3, f4, f5⟩ := hf it (by simp)
      exact I.turned (t' := s.toks) (fun b o hb q => eb b o hb q) f0 f1 f3 f4 f5
  self := fun A i s Q E st h => let ⟨⟨_, he⟩, _⟩ := st; wpAny_pyIter_enum he h
/-! ### what is walked -/
def SqA (K : PySem.W.Frag) (H : Hp) (a : Addr) (xs : List V) : Prop := SqL K H a xs ∨ SqT K H a xs
theorem SqA.same {K : PySem.W.Frag} {G H : Hp} {a : Addr} {xs : List V} (h : SqA K G a xs) (v : Same G H) : SqA K H a xs := h.imp (fun z => SqL.same z v) (fun z => SqT.same z v)
theorem SqA.k {K : PySem.W.Frag} {H : Hp} {a : Addr} {xs : List V} (h : SqA K H a xs) : ∃ k, SqK K k H a xs := by
  rcases h with h | h
  · exact ⟨true, h⟩
  · exact ⟨false, h⟩
def iSq (K : PySem.W.Frag) (tl : TE) : TI := fun σ H R => tl σ H fun x H1 => ∃ a xs G, x = .ref a ∧ SqA K G a xs ∧ Same G H1 ∧ ∀ J, Walk J xs.length (Same G) (YAt xs) → R J H1
theorem pi_sq {X : Cx} {tg : Expr} {l : Expr} {tl : TE} (hl : PE X l tl) : PI X tg l (iSq X.K tl) := by
  refine ⟨fun pins s σ H R I h => ?_⟩
  refine thn (hl.run pins s σ H _ I h) fun v s1 ⟨x, H1, I1, r1, q1⟩ => ?_
  obtain ⟨a, xs, G, e, hq, hv, q⟩ := q1
  subst e
  cases r1
  rcases hq with hq | hq
  · obtain ⟨its, rv, p, hz⟩ := I1.list (SqL.same hq hv)
    refine wpAny_pyIter_list p.isList ?_
    refine ⟨s1.heap.objs.size, [s1.heap.objs.size], _, _, H1, rfl, I1.kept (t' := s1.toks) fun b o e => Heap.get?_push_of_some _ e, turn_list a _, ⟨_, Heap.get?_push_size _ rfl, rfl, rfl⟩, fun b hb => ?_, q _ (walk_list.mono (fun H x => SqL.same hq x) fun _ _ _ _ _ _ y => y)⟩
    have e : b = s1.heap.objs.size := by simpa using hb
    subst e
    exact I1.fpOk (Nat.le_refl _) (I1.hok.fresh (Nat.le_refl _))
  · obtain ⟨its, rv, p, hz⟩ := I1.tuple (SqT.same hq hv)
    refine wpAny_pyIter_tuple (show s1.heap.IsTuple a its.toArray from p) ?_
    refine ⟨s1.heap.objs.size, [s1.heap.objs.size], _, _, H1, rfl, I1.kept (t' := s1.toks) fun b o e => Heap.get?_push_of_some _ e, turn_tuple a _, ⟨_, Heap.get?_push_size _ rfl, rfl, rfl⟩, fun b hb => ?_, q _ (walk_tup.mono (fun H x => SqT.same hq x) fun _ _ _ _ _ _ y => y)⟩
    have e : b = s1.heap.objs.size := by simpa using hb
    subst e
    exact I1.fpOk (Nat.le_refl _) (I1.hok.fresh (Nat.le_refl _))
theorem walk_enumK {K : PySem.W.Frag} {k : Bool} {a : Addr} {xs : List V} : Walk (IteK K k a) xs.length (fun H => SqK K k H a xs) (YPair (fun i => some (.int (i : Nat))) (fun i => xs[i]?)) := by
  refine ⟨fun i _ hi q => ⟨xs, xs[i], q, by simp [hi]⟩, fun _ q => ⟨xs, q, Nat.le_refl _⟩, fun i H v H' _ q y => ?_⟩
  obtain ⟨T, x, y, h1, h2, h3, h4, h5⟩ := y
  exact ⟨T, x, y, h1, h2, h3, by rw [h4], h5 xs q⟩
def iEnumQ (K : PySem.W.Frag) (ta : TA) : TI := fun σ H R => ta σ H fun vs H1 => ∃ a xs G, vs = [.ref a] ∧ SqA K G a xs ∧ Same G H1 ∧ ∀ J, Walk J xs.length (Same G) (YPair (fun i => some (.int (i : Nat))) (fun i => xs[i]?)) → R J H1
theorem pi_enumQ {X : Cx} {e : Expr} {ta : TA} {p pos tpos : Pos} {elts : List Expr} {kk : Nat} (hg : Gl X "enumerate") (hm : X.mg "enumerate" = none) (ha : PA X [e] ta) (hs : starEach [e] X.env = [(false, eval e X.env)] := by rfl) :
    PI X (.Tuple elts kk tpos) (.Call (.Name "enumerate" p) [e] [] pos) (iEnumQ X.K ta) := by
  refine ⟨fun pins s σ H R I h => ?_⟩
  refine Call_ (ld_blt I hg hm boot_enumerate (PyProof.Rows.callWith_type1 (thn (ha.run pos pins s σ H _ I h) fun us s1 ⟨vs, H1, I1, r1, q1⟩ => ?_) hs rfl))
  obtain ⟨a, xs, G, ex, hq, hv, q⟩ := q1
  subst ex
  cases r1 with
  | cons r rr =>
    cases rr
    cases r
    obtain ⟨k, hk⟩ := hq.k
    obtain ⟨its, rv, p', hz⟩ := inv_sq I1 (SqK.same hk hv)
    refine call_enum1 (begins_sq k a its.toArray) p' fun h' he hit hsz hk' => wpAny_pyIter_enum he ?_
    have I2 : Inv X pins σ H1 { s1 with heap := h' } := I1.kept (t' := s1.toks) hk'
    refine ⟨s1.heap.objs.size + 1, [s1.heap.objs.size + 1, s1.heap.objs.size], _, _, H1, rfl, I2, turn_enumK k a (s1.heap.objs.size + 1) s1.heap.objs.size, ⟨⟨.none, he⟩, iter_new hit, Nat.succ_ne_self _⟩, fun b hb => ?_, q _ (walk_enumK.mono (fun H x => SqK.same hk x) fun _ _ _ _ _ _ y => y)⟩
    have e' : b = s1.heap.objs.size + 1 ∨ b = s1.heap.objs.size := by simpa using hb
    have hle : s1.heap.objs.size ≤ b := by
      rcases e' with z | z
      · rw [z]; exact Nat.le_add_right _ _
      · rw [z]; exact Nat.le_refl _
    exact I1.fpOk hle (I1.hok.fresh hle)
/-! ### zip of two -/
def ItzK (K : PySem.W.Frag) (k l : Bool) (a b : Addr) : It :=
  ItK2 (fun i H => ∃ (xs ys : List V) (x y : V), SqK K k H a xs ∧ SqK K l H b ys ∧ xs[i]? = some x ∧ ys[i]? = some y) (fun i H x y => (∀ xs, SqK K k H a xs → xs[i]? = some x) ∧ ∀ ys, SqK K l H b ys → ys[i]? = some y)
    (fun i H => ∃ xs ys : List V, SqK K k H a xs ∧ SqK K l H b ys ∧ i = min xs.length ys.length)
structure ZA (z TI TO i1 i2 : Addr) : Prop where
  a1 : TI ≠ z
  a2 : TO ≠ z
  a3 : TI ≠ TO
  a4 : TI ≠ i1
  a5 : TI ≠ i2
  a6 : z ≠ i1
  a7 : z ≠ i2
  a8 : TO ≠ i1
  a9 : TO ≠ i2
  aa : i1 ≠ i2
theorem zip_ne {h : Heap} {z TI TO x : Addr} {o : Option Obj} {k : Bool} {a : Addr} {items : Array Value} {w : Value} (he : IsZip h z TI TO w) (q : IsSq k h a items) : z ≠ a := fun y => by
  obtain ⟨o, n, e', d⟩ := sq_at q
  have he' : h.get? z = some _ := he
  rw [← y, he'] at e'
  cases e'
  cases d
theorem zsep {h : Heap} {z TI TO i1 i2 a b : Addr} {i : Nat} {k l : Bool} {it1 it2 : Array Value} {w x y : Value} (Z : ZA z TI TO i1 i2) (hz : IsZip h z TI TO w) (hTO : IsTupOf2 h TO x y) (h1 : IsSqIter k h i1 a i) (h2 : IsSqIter l h i2 b i) (q1 : IsSq k h a it1) (q2 : IsSq l h b it2) (na : TO ≠ a) (nb : TO ≠ b) :
    ZipSep2 z TI TO i1 i2 [i1, a] [i2, b] := by
  have z1 := zip_ne (x := a) (o := none) hz q1
  have z2 := zip_ne (x := a) (o := none) hz q2
  have n1 := sq_ne q1 h1
  have n2 := sq_ne q1 h2
  have n3 := sq_ne q2 h1
  have n4 := sq_ne q2 h2
  refine { TIz := Z.a1, TOz := Z.a2, TITO := Z.a3, TIi1 := Z.a4, mem1 := by simp, zf1 := ?_, Tf1 := ?_, TIi2 := Z.a5, mem2 := by simp, zf2 := ?_, Tf2 := ?_, sep1_2 := ?_, sep2_1 := ?_ }
  · simp [Z.a6, z1]
  · simp [Z.a8, na]
  · simp [Z.a7, z2]
  · simp [Z.a9, nb]
  · simp [Z.aa, n3.symm]
  · simp [Z.aa.symm, n2.symm]
theorem turn_zipK {P : Program} {w : World} {K : PySem.W.Frag} {elts : List Expr} {kk : Nat} {tpos : Pos} (k l : Bool) (a b z TI TO i1 i2 : Addr) (Z : ZA z TI TO i1 i2) (na : TO ≠ a) (nb : TO ≠ b) :
    Turn P w K (.Tuple elts kk tpos) (ItzK K k l a b) [z, TI, TO, i1, i2] z (fun i h => IsZip h z TI TO .none ∧ IsTupOf2 h TI (.ref i1) (.ref i2) ∧ (∃ x y, IsTupOf2 h TO x y) ∧ IsSqIter k h i1 a i ∧ IsSqIter l h i2 b i) where
  mem := by simp
  obj := fun i h st c hc => by
    obtain ⟨hz, hTI, ⟨x, y, hTO⟩, h1, h2⟩ := st
    obtain ⟨o1, f1, e1, d1⟩ := iter_at h1
    obtain ⟨o2, f2, e2, d2⟩ := iter_at h2
    have e' : c = z ∨ c = TI ∨ c = TO ∨ c = i1 ∨ c = i2 := by simpa using hc
    rcases e' with q | q | q | q | q
    · rw [q]; exact ⟨_, hz, fun v q => nomatch q⟩
    · rw [q]; exact ⟨_, hTI, fun v q => nomatch q⟩
    · rw [q]; exact ⟨_, hTO, fun v q => nomatch q⟩
    · rw [q]; exact ⟨o1, e1, fun v q => by rw [d1] at q; cases q⟩
    · rw [q]; exact ⟨o2, e2, fun v q => by rw [d2] at q; cases q⟩
  keep := fun i h h' st c => by
    obtain ⟨hz, hTI, ⟨x, y, hTO⟩, h1, h2⟩ := st
    exact ⟨c z (by simp) _ hz, c TI (by simp) _ hTI, ⟨x, y, c TO (by simp) _ hTO⟩, iter_keep h1 fun o q => c i1 (by simp) o q, iter_keep h2 fun o q => c i2 (by simp) o q⟩
  item := by
    intro X hP hw hK hc i pins s σ H E I hf st hg
    subst hP hw hK
    obtain ⟨hz, hTI, ⟨x0, y0, hTO⟩, h1, h2⟩ := st
    obtain ⟨xs, ys, x, y, hqx, hqy, hx, hy⟩ := hg
    obtain ⟨its, rv, p, _⟩ := inv_sq I hqx
    obtain ⟨its2, rv2, p2, _⟩ := inv_sq I hqy
    obtain ⟨u, hu, ru⟩ := rv.get hx
    obtain ⟨u2, hu2, ru2⟩ := rv2.get hy
    have hh : X.A.in1.handled = none := I.ok.hd hc
    have Gs := GoesN.zip2 (A := X.A) (elts := elts) (x1 := kk) (pos := tpos) (zsep Z hz hTO h1 h2 p p2 na nb) (draws_sq (prog := X.prog) (w := X.w) hh k i1 a (sq_ne p h1) its.toArray) (draws_sq (prog := X.prog) (w := X.w) hh l i2 b (sq_ne p2 h2) its2.toArray)
    have hi1 : i < its.toArray.size := by have := (List.getElem?_eq_some_iff.mp hu).1; simpa using this
    have hi2 : i < its2.toArray.size := by have := (List.getElem?_eq_some_iff.mp hu2).1; simpa using this
    refine Gs.goes i s _ E (by omega) ⟨hz, hTI, ⟨x0, y0, hTO⟩, ⟨h1, p⟩, ⟨h2, p2⟩⟩ fun v h' tk Y st' hk htk => ?_
    obtain ⟨T, v1, v2, rfl, hTn, e1, e2, hT⟩ := Y
    obtain ⟨hz', hTI', hTO', ⟨h1', _⟩, ⟨h2', _⟩⟩ := st'
    have q1 : v1 = u := by
      have h3 : its.toArray[i]? = some u := by simpa using hu
      rw [e1] at h3
      exact Option.some.inj h3
    have q2 : v2 = u2 := by
      have h3 : its2.toArray[i]? = some u2 := by simpa using hu2
      rw [e2] at h3
      exact Option.some.inj h3
    subst q1 q2
    have new : ObjOk X.prog X.w (upd H T (.tup [x, y])) h' T (.tup [x, y]) := ⟨by show 2 ≤ sizeLine; decide, [v1, v2], .cons ru (.cons ru2 .nil), hT⟩
    have I1 : Inv X pins σ (upd H T (.tup [x, y])) { s with heap := h', toks := tk } := I.turnedNew (ch := [z, TI, TO, i1, i2]) (fun c o hb q => hk c o (fun m => hb (by
      have e' : c = z ∨ c = TO ∨ c = i1 ∨ c = i2 := by simpa using m
      rcases e' with q | q | q | q <;> simp [q])) q) hf hTn new
    refine ⟨.ref T, _, I1, rfl, ⟨T, x, y, rfl, I.hok.fresh hTn, rfl, fun ys hy => by rw [inv_inj I hy hqx]; exact hx, fun zs hz => by rw [inv_inj I hz hqy]; exact hy⟩, ⟨hz', hTI', hTO', h1', h2'⟩, fun c hcm => ?_⟩
    have hlt : c < s.heap.objs.size := by
      have e' : c = z ∨ c = TI ∨ c = TO ∨ c = i1 ∨ c = i2 := by simpa using hcm
      rcases e' with q | q | q | q | q
      · rw [q]; exact Heap.lt_size (show s.heap.get? z = some _ from hz)
      · rw [q]; exact Heap.lt_size hTI
      · rw [q]; exact Heap.lt_size hTO
      · rw [q]; obtain ⟨_, _, e1, _⟩ := iter_at h1; exact Heap.lt_size e1
      · rw [q]; obtain ⟨_, _, e2, _⟩ := iter_at h2; exact Heap.lt_size e2
    rw [upd_ne (Nat.ne_of_lt (Nat.lt_of_lt_of_le hlt hTn))]
    exact (hf c hcm).1
  done := by
    intro X hP hw hK hc i pins s σ H E I hf st hg
    subst hP hw hK
    obtain ⟨hz, hTI, ⟨x0, y0, hTO⟩, h1, h2⟩ := st
    obtain ⟨xs, ys, hqx, hqy, hend⟩ := hg
    obtain ⟨its, rv, p, _⟩ := inv_sq I hqx
    obtain ⟨its2, rv2, p2, _⟩ := inv_sq I hqy
    have l1 := rv.length
    have l2 := rv2.length
    have hh : X.A.in1.handled = none := I.ok.hd hc
    have Gs := GoesN.zip2 (A := X.A) (elts := elts) (x1 := kk) (pos := tpos) (zsep Z hz hTO h1 h2 p p2 na nb) (draws_sq (prog := X.prog) (w := X.w) hh k i1 a (sq_ne p h1) its.toArray) (draws_sq (prog := X.prog) (w := X.w) hh l i2 b (sq_ne p2 h2) its2.toArray)
    have ei : min its.toArray.size its2.toArray.size = i := by simp; omega
    rw [ei] at Gs
    refine wpAny_mono (Gs.stops s (fun s1 => Inv X pins σ H s1) E ⟨hz, hTI, ⟨x0, y0, hTO⟩, ⟨h1, p⟩, ⟨h2, p2⟩⟩ fun h' tk hk htk => I.turnedL (ch := [z, TI, TO, i1, i2]) (fun c o hb q => hk c o (fun m => hb (by
      have e' : c = z ∨ c = TO ∨ c = i1 ∨ c = i2 := by simpa using m
      rcases e' with q | q | q | q <;> simp [q])) q) hf) (fun _ _ z => z) fun _ _ z => z
  self := fun A i s Q E st h => wpAny_pyIter_zip st.1 h
theorem walk_zipK {K : PySem.W.Frag} {k l : Bool} {a b : Addr} {xs ys : List V} : Walk (ItzK K k l a b) (min xs.length ys.length) (fun H => SqK K k H a xs ∧ SqK K l H b ys) (YPair (fun i => xs[i]?) (fun i => ys[i]?)) := by
  refine ⟨fun i _ hi q => ?_, fun _ q => ⟨xs, ys, q.1, q.2, rfl⟩, fun i H v H' _ q y => ?_⟩
  · have h1 : i < xs.length := by omega
    have h2 : i < ys.length := by omega
    exact ⟨xs, ys, xs[i], ys[i], q.1, q.2, by simp [h1], by simp [h2]⟩
  · obtain ⟨T, x, y, h1, h2, h3, h4, h5⟩ := y
    exact ⟨T, x, y, h1, h2, h3, h4 xs q.1, h5 ys q.2⟩
def iZipQ (K : PySem.W.Frag) (ta : TA) : TI := fun σ H R => ta σ H fun vs H1 => ∃ a b xs ys G, vs = [.ref a, .ref b] ∧ SqA K G a xs ∧ SqA K G b ys ∧ Same G H1 ∧ ∀ J, Walk J (min xs.length ys.length) (Same G) (YPair (fun i => xs[i]?) (fun i => ys[i]?)) → R J H1
theorem pi_zipQ {X : Cx} {e e2 : Expr} {ta : TA} {p pos tpos : Pos} {elts : List Expr} {kk : Nat} (hg : Gl X "zip") (hm : X.mg "zip" = none) (ha : PA X [e, e2] ta)
    (hs : starEach [e, e2] X.env = (false, eval e X.env) :: starEach [e2] X.env := by rfl) (hpl : (backTo pos (starEach [e2] X.env)).any (·.1) = false := by rfl) :
    PI X (.Tuple elts kk tpos) (.Call (.Name "zip" p) [e, e2] [] pos) (iZipQ X.K ta) := by
  refine ⟨fun pins s σ H R I h => ?_⟩
  refine Call_ (ld_blt I hg hm PyProof.Rows.boot_zip (PyProof.Rows.callWith_type1 (thn (ha.run pos pins s σ H _ I h) fun us s1 ⟨vs, H1, I1, r1, q1⟩ => ?_) hs hpl))
  obtain ⟨a, b, xs, ys, G, ex, hqx, hqy, hv, q⟩ := q1
  subst ex
  cases r1 with
  | cons r rr =>
    cases rr with
    | cons r' rr =>
      cases rr
      cases r
      cases r'
      obtain ⟨k, hk⟩ := hqx.k
      obtain ⟨l, hl⟩ := hqy.k
      obtain ⟨its, rv, p1, la⟩ := inv_sq I1 (SqK.same hk hv)
      obtain ⟨its2, rv2, p2, lb⟩ := inv_sq I1 (SqK.same hl hv)
      refine zip_begins2 (begins_sq k a its.toArray) (begins_sq l b its2.toArray) p1 p2 fun h' hz hTI hTO h1 h2 hsz hk' => wpAny_pyIter_zip hz ?_
      have I2 : Inv X pins σ H1 { s1 with heap := h' } := I1.kept (t' := s1.toks) hk'
      have la' : (a : Nat) < s1.heap.objs.size := la
      have lb' : (b : Nat) < s1.heap.objs.size := lb
      refine ⟨s1.heap.objs.size + 4, [s1.heap.objs.size + 4, s1.heap.objs.size + 2, s1.heap.objs.size + 3, s1.heap.objs.size, s1.heap.objs.size + 1], _, _, H1, rfl, I2,
        turn_zipK k l a b (s1.heap.objs.size + 4) (s1.heap.objs.size + 2) (s1.heap.objs.size + 3) s1.heap.objs.size (s1.heap.objs.size + 1)
          ⟨show (s1.heap.objs.size + 2 : Nat) ≠ s1.heap.objs.size + 4 by omega, show (s1.heap.objs.size + 3 : Nat) ≠ s1.heap.objs.size + 4 by omega, show (s1.heap.objs.size + 2 : Nat) ≠ s1.heap.objs.size + 3 by omega, show (s1.heap.objs.size + 2 : Nat) ≠ s1.heap.objs.size by omega,
            show (s1.heap.objs.size + 2 : Nat) ≠ s1.heap.objs.size + 1 by omega, show (s1.heap.objs.size + 4 : Nat) ≠ s1.heap.objs.size by omega, show (s1.heap.objs.size + 4 : Nat) ≠ s1.heap.objs.size + 1 by omega, show (s1.heap.objs.size + 3 : Nat) ≠ s1.heap.objs.size by omega,
            show (s1.heap.objs.size + 3 : Nat) ≠ s1.heap.objs.size + 1 by omega, show (s1.heap.objs.size : Nat) ≠ s1.heap.objs.size + 1 by omega⟩ (Nat.ne_of_gt (Nat.lt_of_lt_of_le la (Nat.le_add_right _ 3))) (Nat.ne_of_gt (Nat.lt_of_lt_of_le lb (Nat.le_add_right _ 3))),
        ⟨hz, hTI, ⟨_, _, hTO⟩, iter_new h1, iter_new h2⟩, fun c hcm => ?_, q _ (walk_zipK.mono (fun H x => ⟨SqK.same hk x, SqK.same hl x⟩) fun _ _ _ _ _ _ y => y)⟩
      have e' : c = s1.heap.objs.size + 4 ∨ c = s1.heap.objs.size + 2 ∨ c = s1.heap.objs.size + 3 ∨ c = s1.heap.objs.size ∨ c = s1.heap.objs.size + 1 := by simpa using hcm
      have hle : s1.heap.objs.size ≤ c := by
        rcases e' with z | z | z | z | z
        · rw [z]; exact Nat.le_add_right _ _
        · rw [z]; exact Nat.le_add_right _ _
        · rw [z]; exact Nat.le_add_right _ _
        · rw [z]; exact Nat.le_refl _
        · rw [z]; exact Nat.le_add_right _ _
      exact I1.fpOk hle (I1.hok.fresh hle)
end XR
set_option Elab.async false
set_option linter.all false
set_option maxRecDepth 100000
set_option maxHeartbeats 4000000
/-! errors of own classes without fields: made by X(), asked when caught -/
namespace XR
open PySem PySem.Spec PyProof.Rows L2
section
variable {X : Cx} {C : Addr} {bmB : List Value} {B newId initId : String}
theorem pmk_own0 {x : Str} {p pos : Pos} (F : ExcBaseFacts B newId initId bmB) (q : PySem.W.excIn X.K C bmB newId = true) (gC : X.mg x = some (.ref C)) (kC : PySem.W.keepIn X.K (.ref C) = true) (r : Raises X (.ref C)) (hg : Gl X x)
    (hdb : (x == ("__debug__" : Str)) = false := by decide) : PMk X (.Call (.Name x p) [] [] pos) (fun _ H Q => Q (.ref C) none H) := by
  intro pins s σ H Q I h
  refine wpAny_Call_Name_kw (ld_glob I hg gC ?_ hdb)
  refine PySem.W.callWith_K0 I.kIn kC ?_
  show wpAny _ _ (call (.ref C) []) _ _ _
  obtain ⟨bm, N, nm, qn, bs, hdct, sn, sub, ab, col, dd, k0, k1, k2, k3, k5, mN, hC, hN, hni, T⟩ := exc_obj I.kIn q
  refine wpAny_call_exc_subT F T hC hN hni (fun h' e hm => ?_) (by show 0 ≤ sizeLine; exact Nat.zero_le _)
  exact mk_of I hm r h (I.hok.gone hm.new)
end
section
variable {X : Cx} {a : Addr} {oe : Obj} {cls : Value} {d : Option Addr}
theorem pinned_none {pins : List (Addr × Obj)} {s : Shared} {σ : L2.St} {H : Hp} {D : Addr}
    (hp : (a, oe) ∈ X.pn) (hz : Zc (.ref D) none oe) (hf : ∃ vs, oe.data = .fields vs) (I : Inv X pins σ H s) : PySem.W.InstAt s.heap a oe D none := by
  have at_ := (I.pin (a, oe) (List.mem_append_left _ hp)).1
  obtain ⟨vs, hv⟩ := hf
  obtain ⟨oc, od, oda, osl⟩ := oe
  obtain ⟨h1, h2⟩ := hz
  dsimp only at h1 h2 hv
  subst h1 h2 hv
  exact ⟨at_, rfl, rfl, trivial⟩
def rIsN (K : PySem.W.Frag) (cls : Value) (d : Option Addr) (a : Addr) : List V → Hp → VK → Prop := fun xs H Q =>
  ∃ (D : Addr) (c : V) (cv : Value) (b : Bool), cls = .ref D ∧ d = none ∧ Asks K D ∧ xs = [.ref a, c] ∧ ClsV c cv ∧ PySem.W.kitOne K (.ref D) cv = some b ∧ Q (.bl b) H
def rIsNT (K : PySem.W.Frag) (cls : Value) (d : Option Addr) (a : Addr) : List V → Hp → VK → Prop := fun xs H Q =>
  ∃ (D tp : Addr) (cs : List V) (us : List Value) (b : Bool), cls = .ref D ∧ d = none ∧ Asks K D ∧ xs = [.ref a, .ref tp] ∧ H tp = some (.tup cs) ∧ Paired ClsV cs us ∧ PySem.W.kitAny K (.ref D) us = some b ∧ Q (.bl b) H
theorem call_isN (hp : (a, oe) ∈ X.pn) (hz : Zc cls d oe) (hf : ∃ vs, oe.data = .fields vs) : CallR X (.builtin "isinstance") (rIsN X.K cls d a) := by
  intro pins s σ H xs us Q I r h
  obtain ⟨D, c, cv, b, rfl, rfl, as, rfl, kc, ek, q⟩ := h
  obtain ⟨u1, u2, rfl, r1, r2⟩ := vals2 r
  obtain rfl : u1 = Value.ref a := r1
  obtain rfl := kc.eq r2
  have J := pinned_none hp hz hf I
  exact PySem.W.kia_one (PySem.W.handS_kitx_exc as.hg as.hk as.hs as.hd as.ha as.hn as.ht as.hm) I.kIn J ek (fun z => nomatch z) fun tk => ⟨.bl b, H, I.tok tk, rfl, q⟩
theorem call_isNT (hp : (a, oe) ∈ X.pn) (hz : Zc cls d oe) (hf : ∃ vs, oe.data = .fields vs) : CallR X (.builtin "isinstance") (rIsNT X.K cls d a) := by
  intro pins s σ H xs us Q I r h
  obtain ⟨D, tp, cs, ws, b, rfl, rfl, as, rfl, hT, kc, ek, q⟩ := h
  obtain ⟨u1, u2, rfl, r1, r2⟩ := vals2 r
  obtain rfl : u1 = Value.ref a := r1
  obtain rfl : u2 = Value.ref tp := r2
  have J := pinned_none hp hz hf I
  have okT : ObjOk X.prog X.w H s.heap tp (.tup cs) := I.hok tp _ hT
  obtain ⟨_, its, rv, ⟨oc, od2, dt, sl⟩, h1, h2, n, h3⟩ := okT
  dsimp only at h2 h3
  subst h2 h3
  obtain rfl := ClsV.all kc rv
  exact PySem.W.kia_tup (PySem.W.handS_kitx_exc as.hg as.hk as.hs as.hd as.ha as.hn as.ht as.hm) I.kIn J h1 ek (fun z => nomatch z) fun tk => ⟨.bl b, H, I.tok tk, rfl, q⟩
/-- with fields or without -/
def rIsA (K : PySem.W.Frag) (cls : Value) (d : Option Addr) (a : Addr) : List V → Hp → VK → Prop := fun xs H Q => rIsP K cls d a xs H Q ∨ rIsN K cls d a xs H Q
def rIsAT (K : PySem.W.Frag) (cls : Value) (d : Option Addr) (a : Addr) : List V → Hp → VK → Prop := fun xs H Q => rIsPT K cls d a xs H Q ∨ rIsNT K cls d a xs H Q
theorem call_isA (hp : (a, oe) ∈ X.pn) (hz : Zc cls d oe) (hf : ∃ vs, oe.data = .fields vs) : CallR X (.builtin "isinstance") (rIsA X.K cls d a) := by
  intro pins s σ H xs us Q I r h
  rcases h with h | h
  · exact call_isP hp hz hf pins s σ H xs us Q I r h
  · exact call_isN hp hz hf pins s σ H xs us Q I r h
theorem call_isAT (hp : (a, oe) ∈ X.pn) (hz : Zc cls d oe) (hf : ∃ vs, oe.data = .fields vs) : CallR X (.builtin "isinstance") (rIsAT X.K cls d a) := by
  intro pins s σ H xs us Q I r h
  rcases h with h | h
  · exact call_isPT hp hz hf pins s σ H xs us Q I r h
  · exact call_isNT hp hz hf pins s σ H xs us Q I r h
end
section
variable {X : Cx} {a b : Addr} {oe : Obj} {cls : Value} {d : Option Addr} {pn : List (Addr × Obj)}
theorem call_isAs (hz : Zc cls d oe) (hf : ∃ vs, oe.data = .fields vs) : CallR (X.suite b ((a, oe) :: pn)) (.builtin "isinstance") (rIsA X.K cls d a) := call_isA List.mem_cons_self hz hf
theorem call_isATs (hz : Zc cls d oe) (hf : ∃ vs, oe.data = .fields vs) : CallR (X.suite b ((a, oe) :: pn)) (.builtin "isinstance") (rIsAT X.K cls d a) := call_isAT List.mem_cons_self hz hf
end
/-! ### min and max of a list or a tuple of ints -/
section
variable {prog : Program} {w : World} {A : Around} {E : Value → Shared → Prop} {s : Shared} {l : Addr} {xs : Array (Int × Tok)}
theorem iter_intTup {Q : Value → Shared → Prop} (hl : s.heap.IsTuple l (intItems xs))
    (h : ∀ s₂ : Shared, s₂ = { s with heap := s.heap.push { cls := .type "tuple_iterator", data := .fields #[.ref l, .int 0 0] } } →
      (s₂.heap.IsTupleIter s.heap.objs.size l 0 ∧ s₂.heap.IsTuple l (intItems xs)) → (∀ b ∈ [s.heap.objs.size, l], b < s₂.heap.objs.size) → l ≠ s.heap.objs.size → Q (.ref s.heap.objs.size) s₂) :
    wpAny (model prog w) A (pyIter (.ref l)) Q E s := by
  have hlt : l < s.heap.objs.size := by obtain ⟨_, e, _⟩ := hl; exact Heap.lt_size e
  refine wpAny_pyIter_tuple hl (h _ rfl ⟨⟨_, Heap.get?_push_size _ rfl, rfl, rfl⟩, ?_⟩ (fun b hb => ?_) (Nat.ne_of_lt hlt))
  · obtain ⟨o, e, r⟩ := hl
    exact ⟨o, Heap.get?_push_of_some _ e, r⟩
  · show b < (s.heap.push _).objs.size
    rw [Heap.size_push]
    rcases List.mem_cons.mp hb with rfl | hb
    · exact Nat.lt_succ_self _
    · rcases List.mem_cons.mp hb with rfl | hb
      · exact Nat.lt_succ_of_lt hlt
      · cases hb
theorem old_keptT {h' : Heap} (hk : ∀ b o, b ∉ [s.heap.objs.size] → (s.heap.push { cls := .type "tuple_iterator", data := .fields #[.ref l, .int 0 0] }).get? b = some o → h'.get? b = some o) :
    ∀ b o, s.heap.get? b = some o → h'.get? b = some o := fun b o e => by
  refine hk b o (fun hm => ?_) (Heap.get?_push_of_some _ e)
  rcases List.mem_cons.mp hm with e1 | hm
  · exact absurd (e1 ▸ Heap.lt_size e) (Nat.lt_irrefl _)
  · cases hm
theorem max_intTup {Q : Value → Shared → Prop} (hh : A.handled = none) (hl : s.heap.IsTuple l (intItems xs)) (hne : 0 < xs.size)
    (h : ∀ v h' tk, (intItems xs)[argBest (fun i j => decide (numAt xs i > numAt xs j)) (xs.size - 1)]? = some v → (∀ b o, s.heap.get? b = some o → h'.get? b = some o) → Q v { s with heap := h', toks := tk }) :
    wpAny (model prog w) A (call (.builtin "max") [.ref l]) Q E s := by
  refine call_max_walk (iter_intTup hl fun s₂ e st hfp hlI => ?_)
  subst e
  refine ⟨_, _, _, _, _, _, _, rfl, Walks.tuple (A := A.in1) hh _ l hlI (intItems xs), st, hfp, by simpa [intItems] using hne, CmpOf.ints_gt (numAt xs) (fun _ _ => intItems_at), fun v h' tk hP hk => ?_⟩
  exact h v h' tk (by simpa [intItems] using hP) (old_keptT hk)
theorem min_intTup {Q : Value → Shared → Prop} (hh : A.handled = none) (hl : s.heap.IsTuple l (intItems xs)) (hne : 0 < xs.size)
    (h : ∀ v h' tk, (intItems xs)[argBest (fun i j => decide (numAt xs i < numAt xs j)) (xs.size - 1)]? = some v → (∀ b o, s.heap.get? b = some o → h'.get? b = some o) → Q v { s with heap := h', toks := tk }) :
    wpAny (model prog w) A (call (.builtin "min") [.ref l]) Q E s := by
  refine call_min_walk (iter_intTup hl fun s₂ e st hfp hlI => ?_)
  subst e
  refine ⟨_, _, _, _, _, _, _, rfl, Walks.tuple (A := A.in1) hh _ l hlI (intItems xs), st, hfp, by simpa [intItems] using hne, CmpOf.ints_lt (numAt xs) (fun _ _ => intItems_at), fun v h' tk hP hk => ?_⟩
  exact h v h' tk (by simpa [intItems] using hP) (old_keptT hk)
end
section
variable {prog : Program} {w : World} {A : Around} {E : Value → Shared → Prop} {s : Shared} {l : Addr} {its : List Value} {ns : List Int} {Q : Value → Shared → Prop}
theorem max_rawT (hh : A.handled = none) (hl : s.heap.IsTuple l its.toArray) (hi : IntsAre its ns) (hne : 0 < ns.length)
    (h : ∀ h' tk M t', (∀ b o, s.heap.get? b = some o → h'.get? b = some o) → M ∈ ns → (∀ a, a ∈ ns → a ≤ M) → Q (.int M t') { s with heap := h', toks := tk }) : wpAny (model prog w) A (call (.builtin "max") [.ref l]) Q E s := by
  obtain ⟨xs, e⟩ := hi.allInts.items
  have hn : numsOf (intItems xs).toList = ns := by rw [← e]; exact hi.numsOf
  rw [nums_intItems] at hn
  subst hn
  rw [e] at hl
  have hsz : 0 < xs.size := by simpa using hne
  refine max_intTup hh hl hsz fun v h' tk hv hk => ?_
  obtain ⟨t, rfl⟩ := intItems_at hv
  obtain ⟨h1, h2⟩ := argBest_gt (numAt xs) (xs.size - 1)
  refine h h' tk _ t hk ?_ fun a ha => ?_
  · rw [numAt_eq]; exact PySem.getD_mem (by rw [List.length_map, Array.length_toList]; omega)
  · obtain ⟨j, hj, rfl⟩ := mem_getD ha
    rw [List.length_map, Array.length_toList] at hj
    rw [← numAt_eq]; exact h2 j (by omega)
theorem min_rawT (hh : A.handled = none) (hl : s.heap.IsTuple l its.toArray) (hi : IntsAre its ns) (hne : 0 < ns.length)
    (h : ∀ h' tk M t', (∀ b o, s.heap.get? b = some o → h'.get? b = some o) → M ∈ ns → (∀ a, a ∈ ns → M ≤ a) → Q (.int M t') { s with heap := h', toks := tk }) : wpAny (model prog w) A (call (.builtin "min") [.ref l]) Q E s := by
  obtain ⟨xs, e⟩ := hi.allInts.items
  have hn : numsOf (intItems xs).toList = ns := by rw [← e]; exact hi.numsOf
  rw [nums_intItems] at hn
  subst hn
  rw [e] at hl
  have hsz : 0 < xs.size := by simpa using hne
  refine min_intTup hh hl hsz fun v h' tk hv hk => ?_
  obtain ⟨t, rfl⟩ := intItems_at hv
  obtain ⟨h1, h2⟩ := argBest_lt (numAt xs) (xs.size - 1)
  refine h h' tk _ t hk ?_ fun a ha => ?_
  · rw [numAt_eq]; exact PySem.getD_mem (by rw [List.length_map, Array.length_toList]; omega)
  · obtain ⟨j, hj, rfl⟩ := mem_getD ha
    rw [List.length_map, Array.length_toList] at hj
    rw [← numAt_eq]; exact h2 j (by omega)
end
section
variable {X : Cx}
def rMaxQ (K : PySem.W.Frag) : List V → Hp → VK → Prop := fun vs H Q => ∃ (a : Addr) (ns : List Int), vs = [V.ref a] ∧ SqA K H a (ns.map V.int) ∧ 0 < ns.length ∧ ∀ m, m ∈ ns → (∀ y, y ∈ ns → y ≤ m) → Q (.int m) H
def rMinQ (K : PySem.W.Frag) : List V → Hp → VK → Prop := fun vs H Q => ∃ (a : Addr) (ns : List Int), vs = [V.ref a] ∧ SqA K H a (ns.map V.int) ∧ 0 < ns.length ∧ ∀ m, m ∈ ns → (∀ y, y ∈ ns → m ≤ y) → Q (.int m) H
theorem cr_maxQ (hc : X.calm = true) : CallR X (.builtin "max") (rMaxQ X.K) := by
  intro pins s σ H vs us Q I r h
  obtain ⟨a, ns, rfl, hs, hne, q⟩ := h
  rw [Vals.ref1 r]
  rcases hs with hs | hs
  · obtain ⟨its, rv, hl, _⟩ := I.list hs
    exact max_raw (I.ok.hd hc) hl.isList rv.ints hne fun h' tk m t' hk h1 h2 => ⟨.int _, H, I.kept hk, ⟨_, rfl⟩, q m h1 h2⟩
  · obtain ⟨its, rv, hl, _⟩ := I.tuple hs
    exact max_rawT (I.ok.hd hc) (show s.heap.IsTuple a its.toArray from hl) rv.ints hne fun h' tk m t' hk h1 h2 => ⟨.int _, H, I.kept hk, ⟨_, rfl⟩, q m h1 h2⟩
theorem cr_minQ (hc : X.calm = true) : CallR X (.builtin "min") (rMinQ X.K) := by
  intro pins s σ H vs us Q I r h
  obtain ⟨a, ns, rfl, hs, hne, q⟩ := h
  rw [Vals.ref1 r]
  rcases hs with hs | hs
  · obtain ⟨its, rv, hl, _⟩ := I.list hs
    exact min_raw (I.ok.hd hc) hl.isList rv.ints hne fun h' tk m t' hk h1 h2 => ⟨.int _, H, I.kept hk, ⟨_, rfl⟩, q m h1 h2⟩
  · obtain ⟨its, rv, hl, _⟩ := I.tuple hs
    exact min_rawT (I.ok.hd hc) (show s.heap.IsTuple a its.toArray from hl) rv.ints hne fun h' tk m t' hk h1 h2 => ⟨.int _, H, I.kept hk, ⟨_, rfl⟩, q m h1 h2⟩
end
end XR
set_option Elab.async false
set_option linter.all false
set_option maxRecDepth 100000
set_option maxHeartbeats 4000000
/-! texts: times, pairs of texts, lists of them -/
namespace XR
open PySem PySem.Spec PyProof.Rows L2
theorem fold_size (c : Array Nat) : ∀ (n : Nat) (acc : Array Nat), ((List.replicate n c).foldl (· ++ ·) acc).size = acc.size + n * c.size
  | 0, acc => by simp
  | n + 1, acc => by
    rw [List.replicate_succ, List.foldl_cons, fold_size c n, Array.size_append, Nat.succ_mul]
    omega
theorem fold_all (p : Nat → Bool) (c : Array Nat) (hc : c.all p = true) : ∀ (n : Nat) (acc : Array Nat), acc.all p = true → ((List.replicate n c).foldl (· ++ ·) acc).all p = true
  | 0, acc, h => by simpa using h
  | n + 1, acc, h => by
    rw [List.replicate_succ, List.foldl_cons]
    exact fold_all p c hc n _ (by rw [Array.all_append, h, hc]; rfl)
def mulS (z : Str) (n : Int) : Str := if n < 1 then Str.empty else if (n == 1 || z.length == 0) = true then z else ⟨(List.replicate n.toNat z.cps).foldl (· ++ ·) #[]⟩
def rMulS : R2 := fun x y H Q => ∃ z n, x = .str z ∧ y = .int n ∧ 1 ≤ n ∧ n ≤ 30 ∧ z.length ≤ 30 ∧ Q (.str (mulS z n)) H
theorem op_mul_str {X : Cx} : OpR X (binaryOp .Mult) rMulS := by
  intro pins s σ H x y v u Q I rx ry h
  obtain ⟨z, n, rfl, rfl, h1, h2, h3, q⟩ := h
  obtain ⟨t, rfl⟩ := rx
  obtain ⟨t', rfl⟩ := ry
  have hn : ¬ n < 1 := by omega
  refine PySem.P.mul_str (by
    rw [decide_eq_false (show ¬ n < -(2 ^ 63 : Int) by omega), decide_eq_false (show ¬ n ≥ 2 ^ 63 by omega)]; rfl) (fun _ _ => ?_) (fun _ _ => ?_) ?_
  · have : (30 : Int) ≤ (2 ^ 63 - 1) / n := Int.le_ediv_of_mul_le (by omega) (by omega)
    omega
  · have : z.length * n.toNat ≤ 30 * 30 := Nat.mul_le_mul h3 (by omega)
    exact decide_eq_false (by rw [sizeLine_eq]; omega)
  · unfold mulS at q
    rw [if_neg hn] at q ⊢
    by_cases e : (n == 1 || z.length == 0) = true
    · rw [if_pos e] at q ⊢
      exact ⟨.str z, H, I, ⟨_, rfl⟩, q⟩
    · rw [if_neg e] at q ⊢
      refine ⟨?_, ⟨.str _, H, I.tok _, ⟨_, rfl⟩, q⟩⟩
      show (Array.size _) ≤ sizeLine
      rw [fold_size, sizeLine_eq]
      have : n.toNat * z.cps.size ≤ 30 * 30 := Nat.mul_le_mul (by omega) h3
      show (0 : Nat) + _ ≤ _
      omega
/-! ### texts that may stand in data -/
def okS (n : Nat) (s : Str) : Prop := PyData.strOk s = true ∧ s.length ≤ n
theorem okS.mono {n m : Nat} {s : Str} (h : okS n s) (e : n ≤ m) : okS m s := ⟨h.1, Nat.le_trans h.2 e⟩
theorem okS.add {n m : Nat} {a b : Str} (h : okS n a) (k : okS m b) : okS (n + m) (a ++ b) := by
  have e : (a ++ b).cps = a.cps ++ b.cps := rfl
  refine ⟨?_, ?_⟩
  · show (a ++ b).cps.all _ = true
    rw [e, Array.all_append]
    show ((a.cps.all _) && (b.cps.all _)) = true
    rw [show a.cps.all _ = true from h.1, show b.cps.all _ = true from k.1]
    rfl
  · show (a ++ b).cps.size ≤ n + m
    rw [e, Array.size_append]
    have h1 : a.cps.size ≤ n := h.2
    have h2 : b.cps.size ≤ m := k.2
    omega
theorem okS.cut {n : Nat} {a : Str} (h : okS n a) (lo hi : Option Int) : okS n (cutS a lo hi) := by
  have ha : a.cps.all (· < 0x110000) = true := h.1
  have hn : a.cps.size ≤ n := h.2
  unfold cutS
  refine ⟨?_, ?_⟩
  · show (List.toArray _).all (· < 0x110000) = true
    rw [List.all_toArray, List.all_eq_true]
    intro c hc
    have := List.mem_of_mem_drop (List.mem_of_mem_take hc)
    rw [Array.all_eq_true_iff_forall_mem] at ha
    exact ha c (Array.mem_toList_iff.mp this)
  · show (List.toArray _).size ≤ n
    rw [List.size_toArray, List.length_take, List.length_drop, Array.length_toList]
    omega
theorem okS.mul {a : Str} (h : okS 1 a) {n : Int} (h1 : 1 ≤ n) (h2 : n ≤ 30) : okS 30 (mulS a n) := by
  unfold mulS
  rw [if_neg (by omega)]
  by_cases e : (n == 1 || a.length == 0) = true
  · rw [if_pos e]
    exact h.mono (by decide)
  · rw [if_neg e]
    refine ⟨fold_all _ _ h.1 _ _ (by simp), ?_⟩
    show Array.size _ ≤ 30
    rw [fold_size]
    have : n.toNat * a.cps.size ≤ n.toNat * 1 := Nat.mul_le_mul (Nat.le_refl _) h.2
    show 0 + _ ≤ _
    omega
theorem okS.at {n : Nat} {z : Str} (h : okS n z) {i : Int} (h0 : 0 ≤ i) (h1 : i < (z.length : Int)) : ∃ c, atI z.cps.toList i = some c ∧ okS 1 (⟨#[c]⟩ : Str) := by
  have e : z.length = z.cps.toList.length := by simp [Str.length]
  have hl : i.toNat < z.cps.toList.length := by omega
  refine ⟨z.cps.toList[i.toNat], ?_, ?_, Nat.le_refl _⟩
  · have h3 := atI_nat (xs := z.cps.toList) (j := i.toNat) (List.getElem?_eq_getElem hl)
    rwa [show ((i.toNat : Nat) : Int) = i by omega] at h3
  have ha : z.cps.all (· < 0x110000) = true := h.1
  rw [Array.all_eq_true_iff_forall_mem] at ha
  have := ha _ (Array.mem_toList_iff.mp (List.getElem_mem hl))
  show (#[_] : Array Nat).all _ = true
  simpa using this
theorem okS_int (i : Int) (h0 : 0 ≤ i) (h1 : i < 128) : okS 3 (Str.ofString (toString i)) := by
  have h : ∀ n : Fin 128, PyData.strOk (Str.ofString (toString (n.val : Int))) = true ∧ (Str.ofString (toString (n.val : Int))).length ≤ 3 := by decide +kernel
  have := h ⟨i.toNat, by omega⟩
  rw [show ((⟨i.toNat, by omega⟩ : Fin 128).val : Int) = i by simp; omega] at this
  exact this
theorem okS.room {n m : Nat} {a b : Str} (h : okS n a) (k : okS m b) (e : n + m ≤ 1000) : a.length + b.length ≤ sizeLine := by
  have h1 := h.2
  have h2 := k.2
  rw [sizeLine_eq]
  omega
theorem seq_ix {i : Int} {n : Nat} (h0 : 0 ≤ i) (h1 : i < (n : Int)) : seqIndex? i n = some i.toNat := by
  simp [seqIndex?, show ¬ i < 0 by omega, h0, h1]
theorem isE_map {α β : Type} (f : α → β) (xs : List α) : (xs.map f).isEmpty = xs.isEmpty := by cases xs <;> rfl
theorem strs_at {n : Nat} (ss : List Str) {i : Int} (h0 : 0 ≤ i) (h : i < (ss.length : Int)) (p : ∀ s ∈ ss, okS n s) : ∃ s, atI (ss.map V.str) i = some (.str s) ∧ okS n s ∧ s ∈ ss := by
  have hl : i.toNat < ss.length := by omega
  refine ⟨ss[i.toNat], at_of (j := i.toNat) (by omega) ?_, p _ (List.getElem_mem hl), List.getElem_mem hl⟩
  rw [List.getElem?_map, List.getElem?_eq_getElem hl] <;> rfl
theorem DpAll.strs {K : PySem.W.Frag} {G : Hp} : ∀ {xs : List V} {ns : List Str}, DpAll K G xs (ns.map PyData.str) → xs = ns.map V.str
  | _, [], .nil => rfl
  | _, _ :: _, .cons a b => by rw [Dp.str_inv a, DpAll.strs b]; rfl
theorem DpAll.of_strs {K : PySem.W.Frag} {G : Hp} : ∀ (ns : List Str), DpAll K G (ns.map V.str) (ns.map PyData.str)
  | [] => .nil
  | n :: r => .cons (.str n) (DpAll.of_strs r)
abbrev sD : Str × Str → PyData := fun c => .tuple [.str c.1, .str c.2]
abbrev sDs (cs : List (Str × Str)) : List PyData := cs.map sD
theorem Dp.spair {K : PySem.W.Frag} {G : Hp} {x : V} {c : Str × Str} (h : Dp K G x (sD c)) : ∃ p, x = .ref p ∧ SqT K G p [.str c.1, .str c.2] := by
  obtain ⟨p, xs, rfl, s, a⟩ := Dp.tup_inv h
  cases a with | cons a1 a2 =>
  cases a2 with | cons b1 b2 =>
  cases b2
  rw [Dp.str_inv a1, Dp.str_inv b1] at s
  exact ⟨p, rfl, s⟩
theorem Dp.mk_spair {K : PySem.W.Frag} {G : Hp} {p : Addr} {a b : Str} (h : SqT K G p [.str a, .str b]) : Dp K G (.ref p) (sD (a, b)) := .tup h (.cons (.str a) (.cons (.str b) .nil))
def okP (n : Nat) (c : Str × Str) : Prop := okS n c.1 ∧ okS n c.2
theorem strs_can {n : Nat} : ∀ ss : List Str, (∀ s ∈ ss, okS n s) → PyData.canLayAll0 (ss.map PyData.str) = true
  | [], _ => rfl
  | s :: r, h => by
    show (PyData.canLay0 (.str s) && PyData.canLayAll0 (r.map PyData.str)) = true
    rw [strs_can r fun x hx => h x (List.mem_cons_of_mem _ hx)]
    have := (h s List.mem_cons_self).1
    simpa [PyData.canLay0] using this
theorem strs_depth : ∀ ns : List Str, PyData.depthAll (ns.map PyData.str) ≤ 8
  | [] => by decide
  | c :: r => by
    have := strs_depth r
    show max (PyData.depth (.str c)) (PyData.depthAll (r.map PyData.str)) ≤ 8
    have h : PyData.depth (.str c) ≤ 8 := by simp [PyData.depth]
    omega
theorem strs_eqv : ∀ ns : List Str, PyData.eqvAll (ns.map PyData.str) (ns.map PyData.str) = true
  | [] => rfl
  | c :: r => by
    show (PyData.eqv (.str c) (.str c) && PyData.eqvAll (r.map PyData.str) (r.map PyData.str)) = true
    rw [strs_eqv r]
    simp [PyData.eqv]
theorem shaped_strs {n : Nat} (ss : List Str) (h : ∀ s ∈ ss, okS n s) : SeqAt.shaped (.list (ss.map PyData.str)) = true ∧ SeqAt.shaped (.tuple (ss.map PyData.str)) = true := by
  have hc := strs_can ss h
  have hd := strs_depth ss
  constructor
  · show (PyData.canLayAll0 (ss.map PyData.str) && decide (PyData.depthAll (ss.map PyData.str) + 1 ≤ 64)) = true
    rw [hc]; simp; omega
  · show (PyData.canLayAll0 (ss.map PyData.str) && decide (PyData.depthAll (ss.map PyData.str) + 1 ≤ 64)) = true
    rw [hc]; simp; omega
theorem sDs_can {n : Nat} : ∀ ss : List (Str × Str), (∀ s ∈ ss, okP n s) → PyData.canLayAll0 (sDs ss) = true
  | [], _ => rfl
  | s :: r, h => by
    show (PyData.canLay0 (sD s) && PyData.canLayAll0 (sDs r)) = true
    rw [sDs_can r fun x hx => h x (List.mem_cons_of_mem _ hx)]
    have h1 := (h s List.mem_cons_self).1.1
    have h2 := (h s List.mem_cons_self).2.1
    simp [PyData.canLay0, PyData.canLayAll0, h1, h2]
theorem sDs_depth : ∀ cs : List (Str × Str), PyData.depthAll (sDs cs) ≤ 8
  | [] => by decide
  | c :: r => by
    have := sDs_depth r
    show max (PyData.depth (sD c)) (PyData.depthAll (sDs r)) ≤ 8
    have h : PyData.depth (sD c) ≤ 8 := by simp [PyData.depth, PyData.depthAll]
    omega
theorem sDs_eqv : ∀ cs : List (Str × Str), PyData.eqvAll (sDs cs) (sDs cs) = true
  | [] => rfl
  | c :: r => by
    show (PyData.eqv (sD c) (sD c) && PyData.eqvAll (sDs r) (sDs r)) = true
    rw [sDs_eqv r]
    simp [PyData.eqv, PyData.eqvAll]
theorem shaped_sDs {n : Nat} (ss : List (Str × Str)) (h : ∀ s ∈ ss, okP n s) : SeqAt.shaped (.list (sDs ss)) = true := by
  have hc := sDs_can ss h
  have hd := sDs_depth ss
  show (PyData.canLayAll0 (sDs ss) && decide (PyData.depthAll (sDs ss) + 1 ≤ 64)) = true
  rw [hc]; simp; omega
theorem call_len_seqb {X : Cx} {s : Shared} {H : Hp} {sc : Scope} {ce : Env} {fp : List Addr} : CallR (X.blk s H sc ce fp) (.builtin "len") (fun xs H Q => ∃ p ys, xs = [V.ref p] ∧ (SqL X.K H p ys ∨ SqT X.K H p ys) ∧ Q (V.int (ys.length : Int)) H) := call_len_seq
end XR
set_option Elab.async false
set_option linter.all false
set_option maxRecDepth 100000
set_option maxHeartbeats 4000000
/-! defs with a star parameter, called at their class -/
namespace XR
open PySem PySem.Spec PyProof.Rows L2
section
variable {X : Cx} {CX : CXT} {k : Nat} {C f p g : Addr} {sp : Sp} {E : XK} {m : Str} {o : Expr} {apos pos : Pos} {pl : Sem Bool} {es : List Expr} {e : Expr} {ta : TE} {t : TA} {ES : L2.St → XK}
/-- the callee with a star runs, somewhere below the body -/
theorem run_atR {A : Around} {pins : List (Addr × Obj)} {σ : L2.St} {H : Hp} {s : Shared} {Q : VK} {us : List Value} {vs : List V} (F : FnR X.prog X.w X.K X.mg X.base CX k f sp) (hr : Room k A) (hA : A.frames = X.A.frames) (hx : PassesAt CX X σ E)
    (I : Inv X pins σ H s) (r : Vals vs us) (h : sp vs H Q E) : wpAny (model X.prog X.w) A (call (.ref f) us) (EP X pins σ Q) X.xe s := by
  have e0 : Env0 X.prog X.w X.K X.mg X.base A X.stack s H := by
    have e := I.env0
    exact ⟨by rw [hA]; exact e.frames, e.mod, e.bs, e.bsz, e.funs, e.frf, e.hok, e.bare⟩
  refine wpAny_call (codeAny_mono (F A X.stack s H us vs Q E hr e0 r h) fun r s' hq => ?_)
  cases r with
  | error e => exact hx pins H s e s' I hq
  | ok fl =>
    cases fl with
    | ret u => exact I.after hq
    | next => exact False.elim hq
    | brk => exact False.elim hq
    | cont => exact False.elim hq
theorem pe_statR (he : PE X o ta) (r : CStat X.K C p g m) (F : FnR X.prog X.w X.K X.mg X.base CX k g sp) (hr : Room k X.A) (hk : PySem.W.keepIn X.K (.ref g) = true) (hx : ∀ σ, PassesAt CX X σ (ES σ)) (ha : PA X (e :: es) t)
    (hst : starEach (e :: es) X.env = (false, eval e X.env) :: starEach es X.env := by rfl) (hpl : (backTo pos (starEach es X.env)).any (·.1) = false := by rfl)
    (ht : eval (.Call (.Attribute o m apos) (e :: es) [] pos) X.env = (do
      let ov ← eval o X.env
      standAt apos.atName
      let (f, first) ← holding [ov] (getMethod ov m pl)
      callWith pos f first (backTo pos (starEach (e :: es) X.env)) (backToKw pos (keywordEach [] X.env))) := by rfl) :
    PE X (.Call (.Attribute o m apos) (e :: es) [] pos) (tStat C sp ES ta t) := by
  refine ⟨fun pins s σ H Q I h => ?_⟩
  refine PySem.W.methodCall_KW (pl := pl) (thn (he.run pins s σ H _ I h) fun u s1 ⟨x, H1, I1, rx, ex, q⟩ => ?_) ht
  subst ex
  obtain rfl : u = Value.ref C := rx
  refine getstat_ok I1 r fun s2 I2 => ?_
  refine PySem.W.callWith_K (h₀ := X.base) I.ok.mod.kin hk (thn (ha.run pos _ s2 σ H1 _ I2 q) fun us s3 ⟨vs, H2, I3, rv, q2⟩ => ⟨I3.kIn, ?_⟩) hst hpl
  exact run_atR F hr rfl (hx σ) I3 rv q2
theorem pe_statR0 (he : PE X o ta) (r : CStat X.K C p g m) (F : FnR X.prog X.w X.K X.mg X.base CX k g sp) (hr : Room k X.A) (hk : PySem.W.keepIn X.K (.ref g) = true) (hx : ∀ σ, PassesAt CX X σ (ES σ))
    (ht : eval (.Call (.Attribute o m apos) [] [] pos) X.env = (do
      let ov ← eval o X.env
      standAt apos.atName
      let (f, first) ← holding [ov] (getMethod ov m pl)
      callWith pos f first (backTo pos (starEach [] X.env)) (backToKw pos (keywordEach [] X.env))) := by rfl) :
    PE X (.Call (.Attribute o m apos) [] [] pos) (tStat C sp ES ta tNil) := by
  refine ⟨fun pins s σ H Q I h => ?_⟩
  refine PySem.W.methodCall_KW (pl := pl) (thn (he.run pins s σ H _ I h) fun u s1 ⟨x, H1, I1, rx, ex, q⟩ => ?_) ht
  subst ex
  obtain rfl : u = Value.ref C := rx
  refine getstat_ok I1 r fun s2 I2 => ?_
  exact PySem.W.callWith_K0 I2.kIn hk (run_atR (us := []) F hr rfl (hx σ) I2 .nil q)
end
section
variable {P : Program} {w : World} {K : PySem.W.Frag} {mg : Str → Option Value} {base : Heap}
/-- a def whose one parameter takes all arguments -/
def spStar (sp : Sp) : Sp := fun vs H Q E => vs.length ≤ sizeLine ∧ ∀ p, H p = none → sp [.ref p] (L2.upd H p (.tup vs)) Q E
theorem okStar {x qual : Str} {st : Stmt} {f : Addr} {fd : FuncData} {N : List Str} {pv : Str} {k : Nat} {sp : Sp} (F : Fun K x qual st f fd) (S : FnScope N [pv] (defScope st))
    (hb : ∀ (kV doc pm : Value) (an : Option Addr) (cdv ct : Value) (rest : List Value), bindArgs (PySem.W.fnOf x qual (defArgs st) (defBody st) (defScope st) .none kV doc pm an cdv ct) { pos := rest } = (do let t ← newTuple rest; pure [(pv, t)]))
    (h : ∀ (cdv : Value) (A : Around) (outer : List Env) (s : Shared) (H : Hp) (vs : List V) (Q : VK) (E : XK), Room k (A.deeper (PyProof.Rows.envOfC qual (defScope st) s.heap.objs.size f cdv)) → sp vs H Q E →
      ∃ t, PSs (cxOf (L2.CX P w) P w K mg base N qual (defScope st) f cdv A outer s H E) (defBody st) t ∧ t { nx := fun _ H' => Q .non H', rt := Q } (L2.start N vs) H) :
    FnR P w K mg base (L2.CX P w) (k + 1) f (spStar sp) := by
  obtain ⟨oc, od, kV, doc, pm, an, cdv, ct, osl, rfl, lk, cd⟩ := F.ex
  have R := StX.fn_star (ps := []) (sp := sp) lk cd S StX.cxUp (fun us rest hl => by
    cases us with
    | nil => exact hb kV doc pm an cdv ct rest
    | cons _ _ => cases hl) (h cdv)
  intro A outer s H us vs Q E hr e0 rv ⟨hl, q⟩
  exact R A outer s H us vs Q E hr e0 rv ⟨[], vs, rfl, rfl, hl, q⟩
end
end XR
set_option Elab.async false
set_option linter.all false
set_option maxRecDepth 100000
set_option maxHeartbeats 4000000
/-! range(n) as a value -/
namespace XR
open PySem PySem.Spec PyProof.Rows L2
theorem cr_range1 {X : Cx} : CallR X (.type "range") (fun vs H Q => ∃ j, vs = [V.int j] ∧ ∀ p, H p = none → Q (.ref p) (L2.upd H p (.rng 0 j))) := by
  intro pins s σ H xs us Q I r h
  obtain ⟨j, rfl, k⟩ := h
  cases r with
  | cons r0 r =>
  cases r
  obtain ⟨t, rfl⟩ := r0
  refine PySem.call_range_1 ?_
  refine ⟨.ref _, L2.upd H _ (.rng 0 j), I.laid ?_ (Nat.le_refl _) ?_, rfl, k _ I.fresh⟩
  · exact fun b u e => Heap.get?_push_of_some _ e
  · exact ⟨_, _, _, Heap.get?_push_size (ho := rfl) ..⟩
theorem call_tuple_ofb {X : Cx} {s : Shared} {H : Hp} {sc : Scope} {ce : Env} {fp : List Addr} : CallR (X.blk s H sc ce fp) (.type "tuple") (fun xs H Q => ∃ p ys, xs = [.ref p] ∧ ((SqL X.K H p ys ∧ ∀ l, H l = none → Q (.ref l) (L2.upd H l (.tup ys))) ∨ (SqT X.K H p ys ∧ Q (.ref p) H))) := call_tuple_of
theorem call_list_ofb {X : Cx} {s : Shared} {H : Hp} {sc : Scope} {ce : Env} {fp : List Addr} : CallR (X.blk s H sc ce fp) (.type "list") (fun xs H Q => ∃ p ys, xs = [.ref p] ∧ (SqL X.K H p ys ∨ SqT X.K H p ys) ∧ ∀ l, H l = none → Q (.ref l) (L2.upd H l (.lst ys))) := call_list_of
theorem pt_truthb {X : Cx} {s : Shared} {H : Hp} {sc : Scope} {ce : Env} {fp : List Addr} {a : Expr} {ta : TE} (ha : PE (X.blk s H sc ce fp) a ta)
    (ht : ∀ whole : Sem Value, PySem.isTrue a (X.blk s H sc ce fp).env whole = do
        let v ← whole
        standAt a.pos
        holding [v] (truthy v)) : PT (X.blk s H sc ce fp) a (fun σ H Q => ta σ H fun x H' => ∃ k, TruV X.K x H' k ∧ Q k H') := pt_truth ha ht
theorem cr_allb {X : Cx} {s : Shared} {H : Hp} {sc : Scope} {ce : Env} {fp : List Addr} (hc : X.calm = true) : CallR (X.blk s H sc ce fp) (.builtin "all") (rAll X.K) := cr_all hc
theorem pi_sqb {X : Cx} {s : Shared} {H : Hp} {sc : Scope} {ce : Env} {fp : List Addr} {tg l : Expr} {tl : TE} (hl : PE (X.blk s H sc ce fp) l tl) : PI (X.blk s H sc ce fp) tg l (iSq X.K tl) := pi_sq hl
theorem op_in_seqbb {X : Cx} {s s2 : Shared} {H H2 : Hp} {sc sc2 : Scope} {ce ce2 : Env} {fp fp2 : List Addr} : OpR ((X.blk s H sc ce fp).blk s2 H2 sc2 ce2 fp2) (compareOp .In) (rIn X.K false) := op_in_seq
theorem op_neDs {X : Cx} {b : Addr} {pn : List (Addr × Obj)} (hu : X.A.units + 64 < cLine) : OpR (X.suite b pn) (compareOp .NotEq) (rNeD X.K) := op_neD (X := X.suite b pn) hu
theorem op_eqDs {X : Cx} {b : Addr} {pn : List (Addr × Obj)} (hu : X.A.units + 64 < cLine) : OpR (X.suite b pn) (compareOp .Eq) (rEqD X.K) := op_eqD (X := X.suite b pn) hu
theorem ix_lists {X : Cx} {b : Addr} {pn : List (Addr × Obj)} : IxR (X.suite b pn) (rIxL X.K) := ix_list
theorem ix_tups {X : Cx} {b : Addr} {pn : List (Addr × Obj)} : IxR (X.suite b pn) (rIxT X.K) := ix_tup
/-- a slice of a list or a tuple -/
def rSlQ (K : PySem.W.Frag) : V → Option Int → Option Int → Hp → VK → Prop := fun x lo hi H Q => ∃ a xs, x = .ref a ∧ SqA K H a xs ∧ ∀ (p : Addr) (H' : Hp), Same H H' → SqA K H' p (cutV xs lo hi) → Q (.ref p) H'
theorem sl_seq {X : Cx} : SlR X (rSlQ X.K) := by
  intro pins s σ H x v vl vu lo hi sl Q I r hs hl hu h
  obtain ⟨a, xs, rfl, hx, k⟩ := h
  rcases hx with hx | hx
  · exact sl_list pins s σ H _ v vl vu lo hi sl Q I r hs hl hu ⟨a, xs, rfl, hx, fun p hp => k p _ (Same.add hp) (.inl (SqL.of L2.upd_same))⟩
  · refine sl_tupA pins s σ H _ v vl vu lo hi sl Q I r hs hl hu ⟨a, xs, rfl, hx, fun w => k a H (Same.refl _) (.inr ?_), fun _ p hp => k p _ (Same.add hp) (.inr (SqT.of L2.upd_same))⟩
    have e : cutV xs lo hi = xs := by
      unfold cutV
      rw [w.1, w.2]
      simp
    rw [e]
    exact hx
end XR
set_option Elab.async false
set_option linter.all false
set_option maxRecDepth 100000
set_option maxHeartbeats 4000000
/-! the layer of values: trees in the place of addresses; what is settled (G) never changes, what is open is numbered -/
namespace VL
open PySem PySem.Spec PyProof.Rows L2 XR
/-- settled values, as trees -/
inductive T where
  | non | bl (b : Bool) | int (i : Int) | str (s : Str) | ty (n : String) | cls (a : Addr)
  | lst (xs : List T) | tup (xs : List T) | scr (xs : List T) | rng (lo hi : Int) | obj (C : Addr) (fs : List (Str × T)) | dk (kvs : List (Key × T)) | dt (kvs : List (List Key × T))
/-- a tuple: tracked, or an object of the module -/
def SqX (K : PySem.W.Frag) (H : Hp) (a : Addr) (xs : List V) : Prop := H a = some (.tup xs) ∨ ∃ (o : Obj) (its : Array Value) (n : Nat), K.lookup a = some o ∧ o.cls = .type "tuple" ∧ o.data = .seq its n ∧ its.size ≤ sizeLine ∧ Vals xs its.toList
theorem SqX.t {K : PySem.W.Frag} {H : Hp} {a : Addr} {xs : List V} (h : SqX K H a xs) : SqT K H a xs := h.imp .inl id
theorem SqX.same {K : PySem.W.Frag} {H H' : Hp} {a : Addr} {xs : List V} (h : SqX K H a xs) (m : Same H H') : SqX K H' a xs := h.imp (m _ _) id
mutual
inductive Rp (K : PySem.W.Frag) (G : Hp) : V → T → Prop
  | non : Rp K G .non .non
  | bl (b : Bool) : Rp K G (.bl b) (.bl b)
  | int (i : Int) : Rp K G (.int i) (.int i)
  | str (s : Str) (h : PyData.strOk s = true) : Rp K G (.str s) (.str s)
  | ty (n : String) : Rp K G (.ty n) (.ty n)
  | cls (a : Addr) : Rp K G (.ref a) (.cls a)
  | lst {a : Addr} {xs : List V} {ts : List T} : G a = some (.lst xs) → RpAll K G xs ts → Rp K G (.ref a) (.lst ts)
  | scr {a : Addr} {xs : List V} {ts : List T} : SqL K G a xs → RpAll K G xs ts → Rp K G (.ref a) (.scr ts)
  | rng {a : Addr} {lo hi : Int} : G a = some (.rng lo hi) → Rp K G (.ref a) (.rng lo hi)
  | tup {a : Addr} {xs : List V} {ts : List T} : SqX K G a xs → RpAll K G xs ts → Rp K G (.ref a) (.tup ts)
  | obj {a C dx : Addr} {fs : List (Str × V)} {gs : List (Str × T)} : G a = some (.ins C dx fs) → fs.map Prod.fst = gs.map Prod.fst → RpAll K G (fs.map Prod.snd) (gs.map Prod.snd) → Rp K G (.ref a) (.obj C gs)
  | dk {a : Addr} {kvs : List (Key × V)} {ks : List (Key × T)} : G a = some (.dK kvs) → kvs.map Prod.fst = ks.map Prod.fst → RpAll K G (kvs.map Prod.snd) (ks.map Prod.snd) → Rp K G (.ref a) (.dk ks)
  | dt {a : Addr} {kvs : List (List Key × V)} {ks : List (List Key × T)} : G a = some (.dT kvs) → kvs.map Prod.fst = ks.map Prod.fst → RpAll K G (kvs.map Prod.snd) (ks.map Prod.snd) → Rp K G (.ref a) (.dt ks)
inductive RpAll (K : PySem.W.Frag) (G : Hp) : List V → List T → Prop
  | nil : RpAll K G [] []
  | cons {v : V} {vs : List V} {t : T} {ts : List T} : Rp K G v t → RpAll K G vs ts → RpAll K G (v :: vs) (t :: ts)
end
/-- fields, pairs of a dict -/
def RpF {κ : Type} (K : PySem.W.Frag) (G : Hp) (fs : List (κ × V)) (gs : List (κ × T)) : Prop := fs.map Prod.fst = gs.map Prod.fst ∧ RpAll K G (fs.map Prod.snd) (gs.map Prod.snd)
section
variable {K : PySem.W.Frag} {G H G' H' : Hp} {v : V} {t : T} {vs xs ys : List V} {ts us : List T}
mutual
theorem Rp.mono (m : Same G G') : ∀ {v : V} {t : T}, Rp K G v t → Rp K G' v t
  | _, _, .non => .non
  | _, _, .bl b => .bl b
  | _, _, .int i => .int i
  | _, _, .str i h => .str i h
  | _, _, .ty i => .ty i
  | _, _, .cls i => .cls i
  | _, _, .lst s a => .lst (m _ _ s) (RpAll.mono m a)
  | _, _, .scr s a => .scr (SqL.same s m) (RpAll.mono m a)
  | _, _, .rng s => .rng (m _ _ s)
  | _, _, .tup s a => .tup (SqX.same s m) (RpAll.mono m a)
  | _, _, .obj s e a => .obj (m _ _ s) e (RpAll.mono m a)
  | _, _, .dk s e a => .dk (m _ _ s) e (RpAll.mono m a)
  | _, _, .dt s e a => .dt (m _ _ s) e (RpAll.mono m a)
theorem RpAll.mono (m : Same G G') : ∀ {vs : List V} {ts : List T}, RpAll K G vs ts → RpAll K G' vs ts
  | _, _, .nil => .nil
  | _, _, .cons a b => .cons (Rp.mono m a) (RpAll.mono m b)
end
theorem RpF.mono {κ : Type} (m : Same G G') {fs : List (κ × V)} {gs : List (κ × T)} (h : RpF K G fs gs) : RpF K G' fs gs := ⟨h.1, h.2.mono m⟩
theorem RpAll.length : ∀ {vs : List V} {ts : List T}, RpAll K G vs ts → vs.length = ts.length
  | _, _, .nil => rfl
  | _, _, .cons _ b => congrArg (· + 1) (RpAll.length b)
theorem RpAll.get : ∀ {vs : List V} {ts : List T} {i : Nat} {v : V}, RpAll K G vs ts → vs[i]? = some v → ∃ t, ts[i]? = some t ∧ Rp K G v t
  | _, _, _, _, .nil, e => by cases e
  | _, _, 0, _, .cons a _, e => by cases e; exact ⟨_, rfl, a⟩
  | _, _, i + 1, _, .cons _ b, e => RpAll.get (i := i) b e
theorem RpAll.get' : ∀ {vs : List V} {ts : List T} {i : Nat} {t : T}, RpAll K G vs ts → ts[i]? = some t → ∃ v, vs[i]? = some v ∧ Rp K G v t
  | _, _, _, _, .nil, e => by cases e
  | _, _, 0, _, .cons a _, e => by cases e; exact ⟨_, rfl, a⟩
  | _, _, i + 1, _, .cons _ b, e => RpAll.get' (i := i) b e
theorem RpAll.append (q : RpAll K G ys us) : ∀ {vs : List V} {ts : List T}, RpAll K G vs ts → RpAll K G (vs ++ ys) (ts ++ us)
  | _, _, .nil => q
  | _, _, .cons a b => .cons a (RpAll.append q b)
theorem RpAll.snoc (p : RpAll K G vs ts) (q : Rp K G v t) : RpAll K G (vs ++ [v]) (ts ++ [t]) := RpAll.append (.cons q .nil) p
theorem RpAll.take : ∀ (n : Nat) {vs : List V} {ts : List T}, RpAll K G vs ts → RpAll K G (vs.take n) (ts.take n)
  | 0, _, _, _ => .nil
  | n + 1, _, _, .nil => .nil
  | n + 1, _, _, .cons a b => .cons a (RpAll.take n b)
theorem RpAll.drop : ∀ (n : Nat) {vs : List V} {ts : List T}, RpAll K G vs ts → RpAll K G (vs.drop n) (ts.drop n)
  | 0, _, _, h => h
  | n + 1, _, _, .nil => .nil
  | n + 1, _, _, .cons a b => RpAll.drop n b
theorem RpAll.set (q : Rp K G v t) : ∀ (n : Nat) {vs : List V} {ts : List T}, RpAll K G vs ts → RpAll K G (vs.set n v) (ts.set n t)
  | _, _, _, .nil => .nil
  | 0, _, _, .cons a b => .cons q b
  | n + 1, _, _, .cons a b => .cons a (RpAll.set q n b)
theorem RpAll.eraseIdx : ∀ (n : Nat) {vs : List V} {ts : List T}, RpAll K G vs ts → RpAll K G (vs.eraseIdx n) (ts.eraseIdx n)
  | _, _, _, .nil => .nil
  | 0, _, _, .cons a b => b
  | n + 1, _, _, .cons a b => .cons a (RpAll.eraseIdx n b)
theorem RpAll.reverse : ∀ {vs : List V} {ts : List T}, RpAll K G vs ts → RpAll K G vs.reverse ts.reverse
  | _, _, .nil => .nil
  | _, _, .cons a b => by rw [List.reverse_cons, List.reverse_cons]; exact RpAll.snoc (RpAll.reverse b) a
theorem RpAll.dropLast : ∀ {vs : List V} {ts : List T}, RpAll K G vs ts → RpAll K G vs.dropLast ts.dropLast
  | _, _, .nil => .nil
  | _, _, .cons a .nil => .nil
  | _, _, .cons a (.cons b c) => .cons a (RpAll.dropLast (.cons b c))
theorem RpAll.rep (h : RpAll K G vs ts) : ∀ n : Nat, RpAll K G (List.replicate n vs).flatten (List.replicate n ts).flatten
  | 0 => .nil
  | n + 1 => by rw [List.replicate_succ, List.replicate_succ, List.flatten_cons, List.flatten_cons]; exact RpAll.append (RpAll.rep h n) h
end
/-- what holds now: settled, an open object by its number, the handled error -/
inductive Rf where
  | val (t : T) | ref (k : Nat) | err (D : Addr) (gs : List (Str × T))
/-- an open object: its content; a settled one -/
inductive MO where
  | mu (t : T) | fz (t : T)
structure Env where
  nio : Nat
  sl : List (Option Rf)
  mem : List MO
/-- what stands around: the heap at the entry and what is settled of it, the open objects of the caller, the handled error -/
structure Bs where
  G0 : Hp
  H0 : Hp
  io : List Addr
  ex : Addr × Value × Option Addr
def MutR (K : PySem.W.Frag) (G H : Hp) (a : Addr) : T → Prop
  | .lst ts => ∃ acc, H a = some (.lst acc) ∧ RpAll K G acc ts
  | .obj C gs => ∃ dx fs, H a = some (.ins C dx fs) ∧ RpF K G fs gs
  | .dk ks => ∃ kvs, H a = some (.dK kvs) ∧ RpF K G kvs ks
  | .dt ks => ∃ kvs, H a = some (.dT kvs) ∧ RpF K G kvs ks
  | _ => False
def MemR (K : PySem.W.Frag) (G H : Hp) (a : Addr) : MO → Prop
  | .mu t => G a = none ∧ MutR K G H a t
  | .fz t => G a ≠ none ∧ Rp K G (.ref a) t
def ErrF (K : PySem.W.Frag) (G : Hp) (d : Option Addr) (gs : List (Str × T)) : Prop := (d = none ∧ gs = []) ∨ ∃ dd fs, d = some dd ∧ G dd = some (.xd fs) ∧ RpF K G fs gs
def RR (K : PySem.W.Frag) (ex : Addr × Value × Option Addr) (as : List Addr) (G : Hp) : Rf → V → Prop
  | .val t, v => Rp K G v t
  | .ref k, v => ∃ a, as[k]? = some a ∧ v = .ref a
  | .err D gs, v => v = .ref ex.1 ∧ ex.2.1 = .ref D ∧ ErrF K G ex.2.2 gs
structure StR (K : PySem.W.Frag) (B : Bs) (as : List Addr) (γ : Env) (σ : L2.St) (G H : Hp) : Prop where
  vw : Same G H
  gg : Same B.G0 G
  out : ∀ a, B.H0 a ≠ none → B.G0 a = none → G a = none
  hh : ∀ a o, B.H0 a = some o → a ∉ B.io → H a = some o
  nio : γ.nio = B.io.length
  pre : B.io <+: as
  mlen : as.length = γ.mem.length
  nd : as.Nodup
  fresh : ∀ (k : Nat) (a : Addr), as[k]? = some a → B.io.length ≤ k → B.H0 a = none
  mem : ∀ (k : Nat) (a : Addr) (m : MO), as[k]? = some a → γ.mem[k]? = some m → MemR K G H a m
  slen : σ.length = γ.sl.length
  sl : ∀ (i : Nat) (r : Rf), γ.sl[i]? = some (some r) → ∃ v, σ[i]? = some (some v) ∧ RR K B.ex as G r v
section
variable {K : PySem.W.Frag} {G H G' H' : Hp} {a : Addr} {t : T} {m : MO} {ex : Addr × Value × Option Addr} {as as' : List Addr} {r : Rf} {v : V}
theorem MutR.some (h : MutR K G H a t) : H a ≠ none := by
  cases t with
  | lst ts => obtain ⟨_, e, _⟩ := h; rw [e]; exact fun z => by cases z
  | obj C gs => obtain ⟨_, _, e, _⟩ := h; rw [e]; exact fun z => by cases z
  | dk ks => obtain ⟨_, e, _⟩ := h; rw [e]; exact fun z => by cases z
  | dt ks => obtain ⟨_, e, _⟩ := h; rw [e]; exact fun z => by cases z
  | _ => exact h.elim
theorem MutR.mono (h : MutR K G H a t) (g : Same G G') (e : H' a = H a) : MutR K G' H' a t := by
  cases t with
  | lst ts => obtain ⟨acc, q, z⟩ := h; exact ⟨acc, e.trans q, z.mono g⟩
  | obj C gs => obtain ⟨dx, fs, q, z⟩ := h; exact ⟨dx, fs, e.trans q, z.mono g⟩
  | dk ks => obtain ⟨kvs, q, z⟩ := h; exact ⟨kvs, e.trans q, z.mono g⟩
  | dt ks => obtain ⟨kvs, q, z⟩ := h; exact ⟨kvs, e.trans q, z.mono g⟩
  | _ => exact h.elim
theorem MutR.rp (h : MutR K G H a t) {o : HO} (e : H a = Option.some o) (g : Same G (upd G a o)) : Rp K (upd G a o) (.ref a) t := by
  cases t with
  | lst ts => obtain ⟨acc, q, z⟩ := h; rw [e] at q; cases q; exact .lst upd_same (z.mono g)
  | obj C gs => obtain ⟨dx, fs, q, z⟩ := h; rw [e] at q; cases q; exact .obj upd_same z.1 (z.2.mono g)
  | dk ks => obtain ⟨kvs, q, z⟩ := h; rw [e] at q; cases q; exact .dk upd_same z.1 (z.2.mono g)
  | dt ks => obtain ⟨kvs, q, z⟩ := h; rw [e] at q; cases q; exact .dt upd_same z.1 (z.2.mono g)
  | _ => exact h.elim
theorem MemR.some (h : MemR K G H a m) (vw : Same G H) : H a ≠ none := by
  cases m with
  | mu t => exact h.2.some
  | fz t =>
    intro z
    obtain ⟨q, _⟩ := h
    exact q (Same.free vw z)
theorem MemR.mono (h : MemR K G H a m) (g : Same G G') (e : H' a = H a) (hn : G a = none → G' a = none) : MemR K G' H' a m := by
  cases m with
  | mu t => exact ⟨hn h.1, h.2.mono g e⟩
  | fz t => exact ⟨Same.some g h.1, h.2.mono g⟩
theorem RR.mono (h : RR K ex as G r v) (p : as <+: as') (g : Same G G') : RR K ex as' G' r v := by
  cases r with
  | val t => exact Rp.mono g h
  | ref k =>
    obtain ⟨a, e, z⟩ := h
    obtain ⟨q, rfl⟩ := p
    have hk : k < as.length := by
      rcases Nat.lt_or_ge k as.length with z | z
      · exact z
      · rw [List.getElem?_eq_none z] at e; cases e
    exact ⟨a, by rw [List.getElem?_append_left hk]; exact e, z⟩
  | err D gs =>
    obtain ⟨e1, e2, e3⟩ := h
    refine ⟨e1, e2, ?_⟩
    rcases e3 with e3 | ⟨dd, fs, x1, x2, x3⟩
    · exact .inl e3
    · exact .inr ⟨dd, fs, x1, g _ _ x2, x3.mono g⟩
theorem nodup_at {xs : List Addr} (h : xs.Nodup) {i j : Nat} {a : Addr} (h1 : xs[i]? = some a) (h2 : xs[j]? = some a) : i = j := by
  obtain ⟨l1, e1⟩ := List.getElem?_eq_some_iff.mp h1
  obtain ⟨l2, e2⟩ := List.getElem?_eq_some_iff.mp h2
  exact (List.getElem_inj h).mp (e1.trans e2.symm)
theorem pre_get {xs ys : List Addr} (p : xs <+: ys) {i : Nat} {a : Addr} (h : xs[i]? = some a) : ys[i]? = some a := by
  obtain ⟨q, rfl⟩ := p
  have hk : i < xs.length := by
    rcases Nat.lt_or_ge i xs.length with z | z
    · exact z
    · rw [List.getElem?_eq_none z] at h; cases h
  rw [List.getElem?_append_left hk]; exact h
end
section
variable {K : PySem.W.Frag} {B : Bs} {as : List Addr} {γ : Env} {σ : L2.St} {G H G' H' : Hp} {p a : Addr} {o : HO} {t : T} {m : MO} {k i : Nat} {r : Rf} {v : V}
theorem StR.at (S : StR K B as γ σ G H) (e : γ.mem[k]? = some m) : ∃ a, as[k]? = some a ∧ MemR K G H a m := by
  have hk : k < γ.mem.length := by
    rcases Nat.lt_or_ge k γ.mem.length with z | z
    · exact z
    · rw [List.getElem?_eq_none z] at e; cases e
  have hk' : k < as.length := by rw [S.mlen]; exact hk
  exact ⟨as[k], List.getElem?_eq_getElem hk', S.mem k _ m (List.getElem?_eq_getElem hk') e⟩
theorem StR.known (S : StR K B as γ σ G H) (e : as[k]? = some a) : H a ≠ none := by
  have hk' : k < as.length := by
    rcases Nat.lt_or_ge k as.length with z | z
    · exact z
    · rw [List.getElem?_eq_none z] at e; cases e
  have hk : k < γ.mem.length := by rw [← S.mlen]; exact hk'
  exact (S.mem k a _ e (List.getElem?_eq_getElem hk)).some S.vw
theorem StR.io_known (S : StR K B as γ σ G H) (h : a ∈ B.io) : H a ≠ none := by
  obtain ⟨k, hk, e⟩ := List.getElem_of_mem h
  exact S.known (pre_get S.pre (i := k) (by rw [List.getElem?_eq_getElem hk, e]))
/-- a new place: not of the entry -/
theorem StR.new0 (S : StR K B as γ σ G H) (h : H p = none) : B.H0 p = none := by
  cases e : B.H0 p with
  | none => rfl
  | some o =>
    by_cases hp : p ∈ B.io
    · exact absurd h (S.io_known hp)
    · rw [S.hh p o e hp] at h; cases h
theorem StR.newA (S : StR K B as γ σ G H) (h : H p = none) : p ∉ as := fun hm => by
  obtain ⟨k, hk, e⟩ := List.getElem_of_mem hm
  exact S.known (k := k) (by rw [List.getElem?_eq_getElem hk, e]) h
theorem StR.newG (S : StR K B as γ σ G H) (h : H p = none) : G p = none := Same.free S.vw h
theorem StR.neA (S : StR K B as γ σ G H) (h : H p = none) (e : as[k]? = some a) : a ≠ p := fun z => S.known e (z ▸ h)
/-- the heap grows by what is not looked at -/
theorem StR.grow (S : StR K B as γ σ G H) (x : Same H H') : StR K B as γ σ G H' :=
  ⟨S.vw.trans x, S.gg, S.out, fun a o e n => x _ _ (S.hh a o e n), S.nio, S.pre, S.mlen, S.nd, S.fresh, fun k a m e1 e2 => by
    have hm := S.mem k a m e1 e2
    obtain ⟨o, ho⟩ := Option.ne_none_iff_exists'.mp (hm.some S.vw)
    exact hm.mono (Same.refl _) (by rw [ho, x _ _ ho]) (fun z => z), S.slen, S.sl⟩
/-- an open object is laid -/
theorem StR.alloc (S : StR K B as γ σ G H) (h : H p = none) (q : MutR K G (L2.upd H p o) p t) : StR K B (as ++ [p]) { γ with mem := γ.mem ++ [.mu t] } σ G (L2.upd H p o) := by
  have x : Same H (L2.upd H p o) := Same.add h
  have S1 := S.grow x
  have na := S.newA h
  refine ⟨S1.vw, S.gg, S.out, S1.hh, S.nio, S.pre.trans (List.prefix_append _ _), by simp [S.mlen], ?_, ?_, ?_, S.slen, fun i r e => ?_⟩
  · rw [List.nodup_append]
    exact ⟨S.nd, by simp, fun a ha b hb => by rw [List.mem_singleton.mp hb]; exact fun z => na (z ▸ ha)⟩
  · intro k a e hk
    rcases Nat.lt_trichotomy k as.length with hlt | rfl | hgt
    · rw [List.getElem?_append_left hlt] at e; exact S.fresh k a e hk
    · rw [List.getElem?_append_right (Nat.le_refl _), Nat.sub_self] at e
      obtain rfl : p = a := by simpa using e
      exact S.new0 h
    · rw [List.getElem?_eq_none (by simp; omega)] at e; cases e
  · intro k a m e1 e2
    rcases Nat.lt_trichotomy k as.length with hlt | rfl | hgt
    · rw [List.getElem?_append_left hlt] at e1
      have e2 : (γ.mem ++ [MO.mu t])[k]? = some m := e2
      rw [List.getElem?_append_left (by rw [← S.mlen]; exact hlt)] at e2
      exact S1.mem k a m e1 e2
    · rw [List.getElem?_append_right (Nat.le_refl _), Nat.sub_self] at e1
      obtain rfl : p = a := by simpa using e1
      have e2 : (γ.mem ++ [MO.mu t])[as.length]? = some m := e2
      rw [S.mlen, List.getElem?_append_right (Nat.le_refl _), Nat.sub_self] at e2
      obtain rfl : MO.mu t = m := by simpa using e2
      exact ⟨S.newG h, q⟩
    · rw [List.getElem?_eq_none (by simp; omega)] at e1; cases e1
  · obtain ⟨v, e1, e2⟩ := S.sl i r e
    exact ⟨v, e1, e2.mono (List.prefix_append _ _) (Same.refl _)⟩
/-- what is settled grows -/
theorem StR.view (S : StR K B as γ σ G H) (g : Same G G') (vw : Same G' H) (hn : ∀ a, G a = none → G' a ≠ none → B.H0 a = none ∧ a ∉ as) : StR K B as γ σ G' H := by
  refine ⟨vw, S.gg.trans g, fun a h1 h2 => ?_, S.hh, S.nio, S.pre, S.mlen, S.nd, S.fresh, fun k a m e1 e2 => ?_, S.slen, fun i r e => ?_⟩
  · cases e : G' a with
    | none => rfl
    | some o => exact absurd (hn a (S.out a h1 h2) (by rw [e]; exact fun z => by cases z)).1 h1
  · refine (S.mem k a m e1 e2).mono g rfl fun z => ?_
    cases e : G' a with
    | none => rfl
    | some o => exact absurd (List.mem_of_getElem? e1) (hn a z (by rw [e]; exact fun z => by cases z)).2
  · obtain ⟨v, e1, e2⟩ := S.sl i r e
    exact ⟨v, e1, e2.mono (List.prefix_refl _) g⟩
/-- a settled object is laid -/
theorem StR.lay (S : StR K B as γ σ G H) (h : H p = none) : StR K B as γ σ (L2.upd G p o) (L2.upd H p o) ∧ Same G (L2.upd G p o) := by
  have g : Same G (L2.upd G p o) := Same.add (S.newG h)
  refine ⟨(S.grow (Same.add h)).view g (Same.upd2 S.vw) fun a z1 z2 => ?_, g⟩
  by_cases e : a = p
  · subst e; exact ⟨S.new0 h, S.newA h⟩
  · rw [upd_ne e] at z2; exact absurd z1 z2
/-- an open object is settled -/
theorem StR.freeze (S : StR K B as γ σ G H) (e : γ.mem[k]? = some (.mu t)) (hk : γ.nio ≤ k) : ∃ a G', as[k]? = some a ∧ StR K B as { γ with mem := γ.mem.set k (.fz t) } σ G' H ∧ Same G G' ∧ Rp K G' (.ref a) t := by
  obtain ⟨a, ea, hn, q⟩ := S.at e
  obtain ⟨o, ho⟩ := Option.ne_none_iff_exists'.mp q.some
  have g : Same G (L2.upd G a o) := Same.add hn
  have f0 : B.H0 a = none := S.fresh k a ea (by rw [← S.nio]; exact hk)
  have rp : Rp K (L2.upd G a o) (.ref a) t := q.rp ho g
  refine ⟨a, L2.upd G a o, ea, ⟨fun b u z => ?_, S.gg.trans g, fun b h1 h2 => ?_, S.hh, S.nio, S.pre, by simp [S.mlen], S.nd, S.fresh, fun j b m e1 e2 => ?_, S.slen, fun i r z => ?_⟩, g, rp⟩
  · by_cases z2 : b = a
    · subst z2; rw [upd_same] at z; cases z; exact ho
    · rw [upd_ne z2] at z; exact S.vw _ _ z
  · have : b ≠ a := fun z => h1 (z ▸ f0)
    rw [upd_ne this]; exact S.out b h1 h2
  · by_cases hj : j = k
    · subst hj
      rw [ea] at e1; cases e1
      have hl : j < γ.mem.length := by rw [← S.mlen]; exact (List.getElem?_eq_some_iff.mp ea).1
      have e2 : (γ.mem.set j (.fz t))[j]? = some m := e2
      rw [List.getElem?_set_self hl] at e2
      cases e2
      exact ⟨by rw [upd_same]; simp, rp⟩
    · have e2 : (γ.mem.set k (.fz t))[j]? = some m := e2
      rw [List.getElem?_set_ne (Ne.symm hj)] at e2
      refine (S.mem j b m e1 e2).mono g rfl fun z => ?_
      have : b ≠ a := fun z2 => hj (nodup_at S.nd e1 (z2 ▸ ea))
      rw [upd_ne this]; exact z
  · obtain ⟨v, e1, e2⟩ := S.sl i r z
    exact ⟨v, e1, e2.mono (List.prefix_refl _) g⟩
/-- an open object is changed -/
theorem StR.write (S : StR K B as γ σ G H) {m0 : T} (e : γ.mem[k]? = some (.mu m0)) (ea : as[k]? = some a) (q : MutR K G (L2.upd H a o) a t) : StR K B as { γ with mem := γ.mem.set k (.mu t) } σ G (L2.upd H a o) := by
  have hn : G a = none := (S.mem k a _ ea e).1
  refine ⟨fun b u z => ?_, S.gg, S.out, fun b u h1 h2 => ?_, S.nio, S.pre, by simp [S.mlen], S.nd, S.fresh, fun j b m e1 e2 => ?_, S.slen, S.sl⟩
  · rw [upd_ne (ne_of_none z hn)]; exact S.vw _ _ z
  · have : b ≠ a := by
      rintro rfl
      by_cases hk : k < B.io.length
      · refine h2 ?_
        obtain ⟨r, hr⟩ := S.pre
        rw [← hr, List.getElem?_append_left hk] at ea
        exact List.mem_of_getElem? ea
      · rw [S.fresh k b ea (by omega)] at h1; cases h1
    rw [upd_ne this]; exact S.hh b u h1 h2
  · by_cases hj : j = k
    · subst hj
      rw [ea] at e1; cases e1
      have hl : j < γ.mem.length := by rw [← S.mlen]; exact (List.getElem?_eq_some_iff.mp ea).1
      have e2 : (γ.mem.set j (.mu t))[j]? = some m := e2
      rw [List.getElem?_set_self hl] at e2
      cases e2
      exact ⟨hn, q⟩
    · have e2 : (γ.mem.set k (.mu t))[j]? = some m := e2
      rw [List.getElem?_set_ne (Ne.symm hj)] at e2
      have : b ≠ a := fun z2 => hj (nodup_at S.nd e1 (z2 ▸ ea))
      exact (S.mem j b m e1 e2).mono (Same.refl _) (upd_ne this) fun z => z
/-- a slot is stored -/
theorem StR.store (S : StR K B as γ σ G H) (q : RR K B.ex as G r v) (i : Nat) : StR K B as { γ with sl := γ.sl.set i (some r) } (σ.set i (some v)) G H := by
  refine ⟨S.vw, S.gg, S.out, S.hh, S.nio, S.pre, S.mlen, S.nd, S.fresh, S.mem, by simp [S.slen], fun j r' e => ?_⟩
  have e : (γ.sl.set i (some r))[j]? = some (some r') := e
  by_cases hj : j = i
  · subst hj
    have hl : j < γ.sl.length := by
      rcases Nat.lt_or_ge j γ.sl.length with z | z
      · exact z
      · rw [List.getElem?_eq_none (by simpa using z)] at e; cases e
    rw [List.getElem?_set_self hl] at e
    cases e
    exact ⟨v, List.getElem?_set_self (by rw [S.slen]; exact hl), q⟩
  · rw [List.getElem?_set_ne (Ne.symm hj)] at e ⊢
    exact S.sl j r' e
/-- a slot is forgotten; the slots may then hold anything -/
theorem StR.unset (S : StR K B as γ σ G H) (i : Nat) : StR K B as { γ with sl := γ.sl.set i none } σ G H := by
  refine ⟨S.vw, S.gg, S.out, S.hh, S.nio, S.pre, S.mlen, S.nd, S.fresh, S.mem, by simp [S.slen], fun j r' e => ?_⟩
  have e : (γ.sl.set i none)[j]? = some (some r') := e
  by_cases hj : j = i
  · subst hj
    rcases Nat.lt_or_ge j γ.sl.length with z | z
    · rw [List.getElem?_set_self z] at e; cases e
    · rw [List.getElem?_eq_none (by simpa using z)] at e; cases e
  · rw [List.getElem?_set_ne (Ne.symm hj)] at e
    exact S.sl j r' e
theorem StR.slots (S : StR K B as γ σ G H) {σ' : L2.St} (hl : σ'.length = σ.length) (h : ∀ (i : Nat) (r : Rf), γ.sl[i]? = some (some r) → σ'[i]? = σ[i]?) : StR K B as γ σ' G H :=
  ⟨S.vw, S.gg, S.out, S.hh, S.nio, S.pre, S.mlen, S.nd, S.fresh, S.mem, hl.trans S.slen, fun i r e => by rw [h i r e]; exact S.sl i r e⟩
end
/-! ### forgetting -/
/-- γ is told more weakly: slots forgotten, open objects settled, the last open objects dropped (not below n0) -/
inductive Le (n0 : Nat) : Env → Env → Prop
  | refl (γ : Env) : Le n0 γ γ
  | unset {γ γ' : Env} (i : Nat) : Le n0 { γ with sl := γ.sl.set i none } γ' → Le n0 γ γ'
  | freeze {γ γ' : Env} {t : T} (k : Nat) : γ.mem[k]? = some (.mu t) → γ.nio ≤ k → Le n0 { γ with mem := γ.mem.set k (.fz t) } γ' → Le n0 γ γ'
  | toVal {γ γ' : Env} {t : T} {k : Nat} (i : Nat) : γ.sl[i]? = some (some (.ref k)) → γ.mem[k]? = some (.fz t) → Le n0 { γ with sl := γ.sl.set i (some (.val t)) } γ' → Le n0 γ γ'
  | cut {γ γ' : Env} (n : Nat) : n0 ≤ n → γ.nio ≤ n → (∀ (i k : Nat), γ.sl[i]? = some (some (.ref k)) → k < n) → Le n0 { γ with mem := γ.mem.take n } γ' → Le n0 γ γ'
theorem StR.le {K : PySem.W.Frag} {B : Bs} {n0 : Nat} {γ γ' : Env} (h : Le n0 γ γ') : ∀ {as as0 : List Addr} {σ : L2.St} {G H : Hp}, StR K B as γ σ G H → as0 <+: as → as0.length = n0 →
    ∃ as' G', as0 <+: as' ∧ Same G G' ∧ StR K B as' γ' σ G' H := by
  induction h with
  | refl γ => intro as as0 σ G H S p _; exact ⟨as, G, p, Same.refl _, S⟩
  | unset i _ ih => intro as as0 σ G H S p l; exact ih (S.unset i) p l
  | freeze k e hk _ ih =>
    intro as as0 σ G H S p l
    obtain ⟨a, G', _, S', g, _⟩ := S.freeze e hk
    obtain ⟨as2, G2, x1, x2, x3⟩ := ih S' p l
    exact ⟨as2, G2, x1, g.trans x2, x3⟩
  | toVal i e1 e2 _ ih =>
    intro as as0 σ G H S p l
    obtain ⟨v, hv, a, ea, rfl⟩ := S.sl i _ e1
    obtain ⟨_, rp⟩ := S.mem _ a _ ea e2
    have S' := S.store (r := .val _) (v := .ref a) rp i
    have e : σ.set i (some (V.ref a)) = σ := by
      apply List.ext_getElem?
      intro j
      by_cases hj : j = i
      · subst hj
        rw [List.getElem?_set_self (List.getElem?_eq_some_iff.mp hv).1, hv]
      · rw [List.getElem?_set_ne (Ne.symm hj)]
    rw [e] at S'
    exact ih S' p l
  | cut n h1 h2 h3 _ ih =>
    intro as as0 σ G H S p l
    refine ih (as := as.take n) ⟨S.vw, S.gg, S.out, S.hh, S.nio, ?_, by simp [S.mlen], S.nd.sublist (List.take_sublist _ _), ?_, ?_, S.slen, ?_⟩ ?_ l
    · have := S.pre
      rw [List.prefix_take_iff]
      exact ⟨this, by rw [← S.nio]; exact h2⟩
    · intro k a e hk
      rw [List.getElem?_take] at e
      split at e
      · exact S.fresh k a e hk
      · cases e
    · intro k a m e1 e2
      rw [List.getElem?_take] at e1
      have e2 : (List.take n _)[k]? = some m := e2
      rw [List.getElem?_take] at e2
      split at e1
      · rename_i hlt
        rw [if_pos hlt] at e2
        exact S.mem k a m e1 e2
      · cases e1
    · intro i r e
      obtain ⟨v, e1, e2⟩ := S.sl i r e
      refine ⟨v, e1, ?_⟩
      cases r with
      | val t => exact e2
      | ref k =>
        obtain ⟨a, x1, x2⟩ := e2
        exact ⟨a, by rw [List.getElem?_take, if_pos (h3 i k e)]; exact x1, x2⟩
      | err D gs => exact e2
    · rw [List.prefix_take_iff]
      exact ⟨p, by omega⟩
end VL
set_option Elab.async false
set_option linter.all false
set_option maxRecDepth 100000
set_option maxHeartbeats 4000000
/-! readings over values: expressions -/
namespace VL
open PySem PySem.Spec PyProof.Rows L2 XR
abbrev VErr := Addr × List (Str × T)
abbrev XQ := VErr → Env → Prop
abbrev RQ := Rf → Env → Prop
abbrev VW := Env → RQ → XQ → Prop
/-- what goes on behind: from the value's side to the heap's -/
def KontP {α β : Type} (K : PySem.W.Frag) (B : Bs) (as : List Addr) (σ : L2.St) (G : Hp) (R : List Addr → Hp → Hp → α → β → Prop) (Q : β → Hp → Prop) (Qv : α → Env → Prop) : Prop :=
  ∀ (a : α) (γ' : Env) (as' : List Addr) (b : β) (G' H' : Hp), as <+: as' → Same G G' → StR K B as' γ' σ G' H' → R as' G' H' a b → Qv a γ' → Q b H'
def KontX (K : PySem.W.Frag) (B : Bs) (as : List Addr) (σ : L2.St) (G : Hp) (E : XK) (Xv : XQ) : Prop :=
  ∀ (e : VErr) (γ' : Env) (as' : List Addr) (d : Option Addr) (G' H' : Hp), as <+: as' → Same G G' → StR K B as' γ' σ G' H' → ErrF K G' d e.2 → Xv e γ' → E (.ref e.1) d H'
def rR (K : PySem.W.Frag) (B : Bs) : List Addr → Hp → Hp → Rf → V → Prop := fun as G _ r v => RR K B.ex as G r v
def rB : List Addr → Hp → Hp → Bool → Bool → Prop := fun _ _ _ a b => a = b
def RRs (K : PySem.W.Frag) (ex : Addr × Value × Option Addr) (as : List Addr) (G : Hp) : List Rf → List V → Prop := Paired (RR K ex as G)
def rA (K : PySem.W.Frag) (B : Bs) : List Addr → Hp → Hp → List Rf → List V → Prop := fun as G _ rs vs => RRs K B.ex as G rs vs
theorem KontP.mono {α β : Type} {K : PySem.W.Frag} {B : Bs} {as as1 : List Addr} {σ : L2.St} {G G1 : Hp} {R : List Addr → Hp → Hp → α → β → Prop} {Q : β → Hp → Prop} {Qv : α → Env → Prop} (k : KontP K B as σ G R Q Qv) (p : as <+: as1) (g : Same G G1) : KontP K B as1 σ G1 R Q Qv :=
  fun a γ' as' b G' H' p' g' S r q => k a γ' as' b G' H' (p.trans p') (g.trans g') S r q
theorem KontX.mono {K : PySem.W.Frag} {B : Bs} {as as1 : List Addr} {σ : L2.St} {G G1 : Hp} {E : XK} {Xv : XQ} (k : KontX K B as σ G E Xv) (p : as <+: as1) (g : Same G G1) : KontX K B as1 σ G1 E Xv :=
  fun e γ' as' d G' H' p' g' S r q => k e γ' as' d G' H' (p.trans p') (g.trans g') S r q
theorem RRs.mono {K : PySem.W.Frag} {ex : Addr × Value × Option Addr} {as as' : List Addr} {G G' : Hp} (p : as <+: as') (g : Same G G') : ∀ {rs : List Rf} {vs : List V}, RRs K ex as G rs vs → RRs K ex as' G' rs vs
  | _, _, .nil => .nil
  | _, _, .cons a b => .cons (a.mono p g) (RRs.mono p g b)
theorem kval {K : PySem.W.Frag} {B : Bs} {as : List Addr} {γ : Env} {σ : L2.St} {G H : Hp} {Q : VK} {Qv : RQ} {v : V} {t : T} (k : KontP K B as σ G (rR K B) Q Qv) (S : StR K B as γ σ G H) (rp : Rp K G v t) (h : Qv (.val t) γ) : Q v H :=
  k (.val t) γ as v G H (List.prefix_refl _) (Same.refl _) S rp h
class VE (K : PySem.W.Frag) (B : Bs) (E : L2.St → XK) (t : TE) (w : outParam VW) : Prop where
  run : ∀ {as : List Addr} {γ : Env} {σ : L2.St} {G H : Hp} {Q : VK} {Qv : RQ} {Xv : XQ}, StR K B as γ σ G H → w γ Qv Xv → KontP K B as σ G (rR K B) Q Qv → KontX K B as σ G (E σ) Xv → t σ H Q
class VT (K : PySem.W.Frag) (B : Bs) (E : L2.St → XK) (t : TT) (w : outParam (Env → (Bool → Env → Prop) → XQ → Prop)) : Prop where
  run : ∀ {as : List Addr} {γ : Env} {σ : L2.St} {G H : Hp} {Q : Bool → Hp → Prop} {Qv : Bool → Env → Prop} {Xv : XQ}, StR K B as γ σ G H → w γ Qv Xv → KontP K B as σ G rB Q Qv → KontX K B as σ G (E σ) Xv → t σ H Q
class VA (K : PySem.W.Frag) (B : Bs) (E : L2.St → XK) (t : TA) (w : outParam (Env → (List Rf → Env → Prop) → XQ → Prop)) : Prop where
  run : ∀ {as : List Addr} {γ : Env} {σ : L2.St} {G H : Hp} {Q : List V → Hp → Prop} {Qv : List Rf → Env → Prop} {Xv : XQ}, StR K B as γ σ G H → w γ Qv Xv → KontP K B as σ G (rA K B) Q Qv → KontX K B as σ G (E σ) Xv → t σ H Q
/-- by values: one, two, several -/
class V1 (K : PySem.W.Frag) (B : Bs) (E : L2.St → XK) (r : V → Hp → VK → Prop) (w : outParam (Rf → VW)) : Prop where
  run : ∀ {as : List Addr} {γ : Env} {σ : L2.St} {G H : Hp} {x : V} {rx : Rf} {Q : VK} {Qv : RQ} {Xv : XQ}, StR K B as γ σ G H → RR K B.ex as G rx x → w rx γ Qv Xv → KontP K B as σ G (rR K B) Q Qv → KontX K B as σ G (E σ) Xv → r x H Q
class V2 (K : PySem.W.Frag) (B : Bs) (E : L2.St → XK) (r : R2) (w : outParam (Rf → Rf → VW)) : Prop where
  run : ∀ {as : List Addr} {γ : Env} {σ : L2.St} {G H : Hp} {x y : V} {rx ry : Rf} {Q : VK} {Qv : RQ} {Xv : XQ}, StR K B as γ σ G H → RR K B.ex as G rx x → RR K B.ex as G ry y → w rx ry γ Qv Xv → KontP K B as σ G (rR K B) Q Qv → KontX K B as σ G (E σ) Xv → r x y H Q
class VC (K : PySem.W.Frag) (B : Bs) (E : L2.St → XK) (r : List V → Hp → VK → Prop) (w : outParam (List Rf → VW)) : Prop where
  run : ∀ {as : List Addr} {γ : Env} {σ : L2.St} {G H : Hp} {vs : List V} {rs : List Rf} {Q : VK} {Qv : RQ} {Xv : XQ}, StR K B as γ σ G H → RRs K B.ex as G rs vs → w rs γ Qv Xv → KontP K B as σ G (rR K B) Q Qv → KontX K B as σ G (E σ) Xv → r vs H Q
class VM (K : PySem.W.Frag) (B : Bs) (E : L2.St → XK) (r : V → List V → Hp → VK → Prop) (w : outParam (Rf → List Rf → VW)) : Prop where
  run : ∀ {as : List Addr} {γ : Env} {σ : L2.St} {G H : Hp} {x : V} {rx : Rf} {vs : List V} {rs : List Rf} {Q : VK} {Qv : RQ} {Xv : XQ}, StR K B as γ σ G H → RR K B.ex as G rx x → RRs K B.ex as G rs vs → w rx rs γ Qv Xv → KontP K B as σ G (rR K B) Q Qv → KontX K B as σ G (E σ) Xv → r x vs H Q
/-! ### settling, looking -/
def nth {α : Type} : List α → Nat → Option α
  | [], _ => none
  | a :: _, 0 => some a
  | _ :: l, n + 1 => nth l n
theorem nth_eq {α : Type} : ∀ (l : List α) (n : Nat), nth l n = l[n]?
  | [], n => by simp [nth]
  | a :: _, 0 => rfl
  | _ :: l, n + 1 => by show nth l n = _; rw [nth_eq l n]; rfl
/-- there is one -/
def isS {α : Type} (o : Option α) (Q : α → Prop) : Prop := match o with
  | some t => Q t
  | none => False
theorem isS_i {α : Type} {o : Option α} {t : α} {Q : α → Prop} (e : o = some t) (h : Q t) : isS o Q := by rw [e]; exact h
theorem isS_e {α : Type} {o : Option α} {Q : α → Prop} (h : isS o Q) : ∃ t, o = some t ∧ Q t := by
  cases o with
  | none => exact h.elim
  | some t => exact ⟨t, rfl, h⟩
/-- the item at an index, from the end if below zero -/
def atL {α : Type} (ts : List α) : Int → Option α
  | .ofNat n => nth ts n
  | .negSucc n => nth ts.reverse n
theorem atL_eq {α : Type} (ts : List α) (i : Int) : atL ts i = L2.atI ts i := by
  unfold L2.atI ixN
  cases i with
  | ofNat n =>
    have h0 : (0 : Int) ≤ Int.ofNat n := Int.natCast_nonneg n
    rw [if_pos h0]
    show nth ts n = _
    rw [nth_eq]
    by_cases h : Int.ofNat n < (ts.length : Int)
    · rw [if_pos h]; rfl
    · rw [if_neg h]
      have h : ¬ ((n : Int) < (ts.length : Int)) := h
      exact List.getElem?_eq_none (by omega)
  | negSucc n =>
    have h0 : ¬ (0 : Int) ≤ Int.negSucc n := by omega
    rw [if_neg h0]
    show nth ts.reverse n = _
    rw [nth_eq]
    by_cases h : -(ts.length : Int) ≤ Int.negSucc n
    · rw [if_pos h]
      have hn : n < ts.length := by omega
      rw [List.getElem?_reverse hn]
      show _ = ts[(Int.negSucc n + (ts.length : Int)).toNat]?
      congr 1
      omega
    · rw [if_neg h]
      exact List.getElem?_eq_none (by rw [List.length_reverse]; omega)
theorem atL_nat {α : Type} (ts : List α) {i : Int} (h : 0 ≤ i) : atL ts i = ts[i.toNat]? := by
  obtain ⟨n, rfl⟩ := Int.eq_ofNat_of_zero_le h
  show nth ts n = _
  rw [nth_eq]; rfl
theorem atL_at {α : Type} (ts : List α) {i : Int} (h : 0 ≤ i) (h1 : i < (ts.length : Int)) : ∃ t, atL ts i = some t ∧ ts[i.toNat]? = some t := by
  have hl : i.toNat < ts.length := by omega
  exact ⟨ts[i.toNat], by rw [atL_nat ts h, List.getElem?_eq_getElem hl], List.getElem?_eq_getElem hl⟩
theorem atL_last {α : Type} (ts : List α) (t : α) : atL (ts ++ [t]) (-1) = some t := by
  show nth (ts ++ [t]).reverse 0 = _
  rw [List.reverse_append]; rfl
def setN {α : Type} : List α → Nat → α → Option (List α)
  | [], _, _ => none
  | _ :: l, 0, t => some (t :: l)
  | a :: l, n + 1, t => (setN l n t).map (a :: ·)
theorem setN_eq {α : Type} : ∀ (l : List α) (n : Nat) (t : α), setN l n t = if n < l.length then some (l.set n t) else none
  | [], n, t => rfl
  | a :: l, 0, t => rfl
  | a :: l, n + 1, t => by
    show (setN l n t).map _ = _
    rw [setN_eq l n t]
    by_cases h : n < l.length
    · rw [if_pos h, if_pos (by simpa using h)]; rfl
    · rw [if_neg h, if_neg (by simpa using h)]; rfl
/-- a list with the item at i replaced -/
def setL {α : Type} (ts : List α) (i : Int) (t : α) : Option (List α) := match i with
  | .ofNat n => setN ts n t
  | .negSucc n => match Nat.blt n ts.length with
    | true => setN ts (ts.length - 1 - n) t
    | false => none
theorem setL_ix {α : Type} {ts us : List α} {i : Int} {t : α} (h : setL ts i t = some us) : ∃ j, ixN ts.length i = some j ∧ us = ts.set j t := by
  unfold ixN
  cases i with
  | ofNat n =>
    have h0 : (0 : Int) ≤ Int.ofNat n := Int.natCast_nonneg n
    have h : setN ts n t = some us := h
    rw [setN_eq] at h
    split at h
    · rename_i hl
      have h1 : Int.ofNat n < (ts.length : Int) := by have := hl; show (n : Int) < _; omega
      exact ⟨n, by rw [if_pos h0, if_pos h1]; rfl, (Option.some.inj h).symm⟩
    · cases h
  | negSucc n =>
    have h0 : ¬ (0 : Int) ≤ Int.negSucc n := by omega
    have h : (match Nat.blt n ts.length with | true => setN ts (ts.length - 1 - n) t | false => none) = some us := h
    split at h
    · rename_i hb
      have hl : n < ts.length := by simpa [Nat.blt_eq] using hb
      rw [setN_eq, if_pos (by omega)] at h
      refine ⟨ts.length - 1 - n, ?_, (Option.some.inj h).symm⟩
      rw [if_neg h0, if_pos (by omega)]
      congr 1
      omega
    · cases h
theorem setL_nat {α : Type} (ts : List α) {i : Int} (t : α) (h : 0 ≤ i) (h1 : i < (ts.length : Int)) : setL ts i t = some (ts.set i.toNat t) := by
  obtain ⟨n, rfl⟩ := Int.eq_ofNat_of_zero_le h
  show setN ts n t = _
  rw [setN_eq, if_pos (by omega)]; rfl
/-- the last item, and what is before it -/
def popL {α : Type} : List α → Option (α × List α)
  | [] => none
  | [a] => some (a, [])
  | a :: b :: r => (popL (b :: r)).map fun p => (p.1, a :: p.2)
theorem popL_eq {α : Type} : ∀ {ts : List α} {p : α × List α}, popL ts = some p → ts[ts.length - 1]? = some p.1 ∧ ts.dropLast = p.2
  | [], _, h => by cases h
  | [a], _, h => by cases h; exact ⟨rfl, rfl⟩
  | a :: b :: r, p, h => by
    have h : (popL (b :: r)).map (fun p => (p.1, a :: p.2)) = some p := h
    cases e : popL (b :: r) with
    | none => rw [e] at h; cases h
    | some q =>
      rw [e] at h
      cases h
      obtain ⟨h1, h2⟩ := popL_eq e
      refine ⟨?_, by show a :: (b :: r).dropLast = _; rw [h2]⟩
      have : (a :: b :: r)[(a :: b :: r).length - 1]? = (b :: r)[(b :: r).length - 1]? := by simp
      rw [this]; exact h1
theorem popL_snoc {α : Type} (t : α) : ∀ ts : List α, popL (ts ++ [t]) = some (t, ts)
  | [] => rfl
  | [a] => rfl
  | a :: b :: r => by
    show (popL ((b :: r) ++ [t])).map _ = _
    rw [popL_snoc t (b :: r)]; rfl
def popN {α : Type} : List α → Nat → Option (α × List α)
  | [], _ => none
  | a :: l, 0 => some (a, l)
  | a :: l, n + 1 => (popN l n).map fun p => (p.1, a :: p.2)
theorem popN_eq {α : Type} : ∀ (l : List α) (n : Nat), popN l n = l[n]?.map fun a => (a, l.eraseIdx n)
  | [], n => by simp [popN]
  | a :: l, 0 => rfl
  | a :: l, n + 1 => by
    show (popN l n).map _ = _
    rw [popN_eq l n]
    cases e : l[n]? with
    | none => simp [e]
    | some x => simp [e]
def Env.put (γ : Env) (k : Nat) (m : MO) : Env := { γ with mem := γ.mem.set k m }
def Env.push (γ : Env) (m : MO) : Env := { γ with mem := γ.mem ++ [m] }
def Env.set (γ : Env) (i : Nat) (r : Rf) : Env := { γ with sl := γ.sl.set i (some r) }
def Env.unset (γ : Env) (i : Nat) : Env := { γ with sl := γ.sl.set i none }
/-- the value as it is settled -/
def toT (r : Rf) (γ : Env) (Q : T → Env → Prop) : Prop :=
  match r with
  | .val t => Q t γ
  | .ref k => match nth γ.mem k with
    | some (.fz t) => Q t γ
    | some (.mu t) => match Nat.blt k γ.nio with
      | true => False
      | false => Q t (γ.put k (.fz t))
    | none => False
  | .err _ _ => False
/-- the value as it is now -/
def peek (r : Rf) (γ : Env) (Q : T → Prop) : Prop :=
  match r with
  | .val t => Q t
  | .ref k => match nth γ.mem k with
    | some (.fz t) => Q t
    | some (.mu t) => Q t
    | none => False
  | .err _ _ => False
section
variable {K : PySem.W.Frag} {B : Bs} {as : List Addr} {γ : Env} {σ : L2.St} {G H : Hp} {r : Rf} {v : V}
theorem toT_ok {Q : T → Env → Prop} (S : StR K B as γ σ G H) (rr : RR K B.ex as G r v) (h : toT r γ Q) : ∃ t γ' G', Same G G' ∧ StR K B as γ' σ G' H ∧ Rp K G' v t ∧ Q t γ' := by
  cases r with
  | val t => exact ⟨t, γ, G, Same.refl _, S, rr, h⟩
  | ref k =>
    obtain ⟨a, ea, rfl⟩ := rr
    unfold toT at h
    simp only [nth_eq] at h
    split at h
    · rename_i t e
      obtain ⟨_, q⟩ := S.mem k a _ ea e
      exact ⟨t, γ, G, Same.refl _, S, q, h⟩
    · rename_i t e
      split at h
      · exact h.elim
      · rename_i hb
        have hk : γ.nio ≤ k := by
          rcases Nat.lt_or_ge k γ.nio with z | z
          · have : Nat.blt k γ.nio = true := by simpa [Nat.blt_eq] using z
            rw [this] at hb; cases hb
          · exact z
        obtain ⟨a', G', ea', S', g, rp⟩ := S.freeze e hk
        rw [ea] at ea'; cases ea'
        exact ⟨t, _, G', g, S', rp, h⟩
    · exact h.elim
  | err D gs => exact h.elim
/-- what it is in the heap: settled, or open -/
theorem peek_ok {Q : T → Prop} (S : StR K B as γ σ G H) (rr : RR K B.ex as G r v) (h : peek r γ Q) : ∃ t, Q t ∧ (Rp K G v t ∨ ∃ a, v = .ref a ∧ MutR K G H a t) := by
  cases r with
  | val t => exact ⟨t, h, .inl rr⟩
  | ref k =>
    obtain ⟨a, ea, rfl⟩ := rr
    unfold peek at h
    simp only [nth_eq] at h
    split at h
    · rename_i t e
      obtain ⟨_, q⟩ := S.mem k a _ ea e
      exact ⟨t, h, .inl q⟩
    · rename_i t e
      obtain ⟨_, q⟩ := S.mem k a _ ea e
      exact ⟨t, h, .inr ⟨a, rfl, q⟩⟩
    · exact h.elim
  | err D gs => exact h.elim
theorem MutR.rpH {a : Addr} {t : T} (vw : Same G H) (h : MutR K G H a t) : Rp K H (.ref a) t := by
  cases t with
  | lst ts => obtain ⟨acc, q, z⟩ := h; exact .lst q (z.mono vw)
  | obj C gs => obtain ⟨dx, fs, q, z⟩ := h; exact .obj q z.1 (z.2.mono vw)
  | dk ks => obtain ⟨kvs, q, z⟩ := h; exact .dk q z.1 (z.2.mono vw)
  | dt ks => obtain ⟨kvs, q, z⟩ := h; exact .dt q z.1 (z.2.mono vw)
  | _ => exact h.elim
theorem peek_rp {Q : T → Prop} (S : StR K B as γ σ G H) (rr : RR K B.ex as G r v) (h : peek r γ Q) : ∃ t, Q t ∧ Rp K H v t := by
  obtain ⟨t, q, z⟩ := peek_ok S rr h
  rcases z with z | ⟨a, rfl, z⟩
  · exact ⟨t, q, z.mono S.vw⟩
  · exact ⟨t, q, z.rpH S.vw⟩
end
/-- a sequence: list (true) or tuple -/
def seqT (t : T) (Q : Bool → List T → Prop) : Prop :=
  match t with
  | .lst ts => Q true ts
  | .scr ts => Q true ts
  | .tup ts => Q false ts
  | _ => False
def SqK2 (K : PySem.W.Frag) (H : Hp) (a : Addr) (xs : List V) : Bool → Prop
  | true => SqL K H a xs
  | false => SqT K H a xs
theorem SqK2.or {K : PySem.W.Frag} {H : Hp} {a : Addr} {xs : List V} : ∀ {b : Bool}, SqK2 K H a xs b → SqL K H a xs ∨ SqT K H a xs
  | true, h => .inl h
  | false, h => .inr h
section
variable {K : PySem.W.Frag} {B : Bs} {as : List Addr} {γ : Env} {σ : L2.St} {G H : Hp} {r : Rf} {v : V}
theorem peek_seq {Q : Bool → List T → Prop} (S : StR K B as γ σ G H) (rr : RR K B.ex as G r v) (h : peek r γ fun t => seqT t Q) : ∃ b ts a acc, v = .ref a ∧ SqK2 K H a acc b ∧ RpAll K G acc ts ∧ Q b ts := by
  obtain ⟨t, q, z⟩ := peek_ok S rr h
  cases t with
  | lst ts =>
    rcases z with z | ⟨a, rfl, acc, z1, z2⟩
    · cases z with | lst z1 z2 => exact ⟨true, ts, _, _, rfl, SqL.of (S.vw _ _ z1), z2, q⟩
    · exact ⟨true, ts, a, acc, rfl, SqL.of z1, z2, q⟩
  | scr ts =>
    rcases z with z | ⟨a, rfl, z1⟩
    · cases z with | scr z1 z2 => exact ⟨true, ts, _, _, rfl, SqL.same z1 S.vw, z2, q⟩
    · exact z1.elim
  | tup ts =>
    rcases z with z | ⟨a, rfl, z1⟩
    · cases z with | tup z1 z2 => exact ⟨false, ts, _, _, rfl, SqT.same z1.t S.vw, z2, q⟩
    · exact z1.elim
  | _ => exact q.elim
end
/-! ### names, constants -/
def vVar (i : Nat) : VW := fun γ Q _ => match nth γ.sl i with
  | some (some r) => Q r γ
  | some none => False
  | none => False
instance {K : PySem.W.Frag} {B : Bs} {E : L2.St → XK} {i : Nat} : VE K B E (tVar i) (vVar i) where
  run := fun {as γ σ G H Q Qv Xv} S h k _ => by
    unfold vVar at h
    rw [nth_eq] at h
    split at h
    · rename_i r e
      obtain ⟨v, e1, e2⟩ := S.sl i r e
      exact ⟨v, e1, k r γ as v G H (List.prefix_refl _) (Same.refl _) S e2 h⟩
    · exact h.elim
    · exact h.elim
def vVal (t : T) : VW := fun γ Q _ => Q (.val t) γ
def vStr (x : Str) : VW := fun γ Q _ => PyData.strOk x = true ∧ Q (.val (.str x)) γ
section
variable {K : PySem.W.Frag} {B : Bs} {E : L2.St → XK}
instance {i : Int} : VE K B E (tC (.int i)) (vVal (.int i)) := ⟨fun {as γ σ G H Q Qv Xv} S h k _ => kval k S (.int i) h⟩
instance {b : Bool} : VE K B E (tC (.bl b)) (vVal (.bl b)) := ⟨fun {as γ σ G H Q Qv Xv} S h k _ => kval k S (.bl b) h⟩
instance : VE K B E (tC .non) (vVal .non) := ⟨fun {as γ σ G H Q Qv Xv} S h k _ => kval k S .non h⟩
instance {n : String} : VE K B E (tC (.ty n)) (vVal (.ty n)) := ⟨fun {as γ σ G H Q Qv Xv} S h k _ => kval k S (.ty n) h⟩
instance {a : Addr} : VE K B E (tC (.ref a)) (vVal (.cls a)) := ⟨fun {as γ σ G H Q Qv Xv} S h k _ => kval k S (.cls a) h⟩
instance {x : Str} : VE K B E (tC (.str x)) (vStr x) := ⟨fun {as γ σ G H Q Qv Xv} S h k _ => kval k S (.str x h.1) h.2⟩
/-! ### operators by values -/
def vOp (wr : Rf → Rf → VW) (wa wb : VW) : VW := fun γ Q X => wa γ (fun r1 γ1 => wb γ1 (fun r2 γ2 => wr r1 r2 γ2 Q X) X) X
instance {r : R2} {wr : Rf → Rf → VW} {ta tb : TE} {wa wb : VW} [ha : VE K B E ta wa] [hb : VE K B E tb wb] [hr : V2 K B E r wr] : VE K B E (tOp r ta tb) (vOp wr wa wb) where
  run := fun {as γ σ G H Q Qv Xv} S h k kx => by
    refine ha.run S h (fun r1 γ1 as1 v1 G1 H1 p1 g1 S1 rr1 q1 => ?_) kx
    refine hb.run S1 q1 (fun r2 γ2 as2 v2 G2 H2 p2 g2 S2 rr2 q2 => ?_) (kx.mono p1 g1)
    exact hr.run S2 (RR.mono rr1 p2 g2) rr2 q2 ((k.mono p1 g1).mono p2 g2) ((kx.mono p1 g1).mono p2 g2)
def vUn (wr : Rf → VW) (wa : VW) : VW := fun γ Q X => wa γ (fun r1 γ1 => wr r1 γ1 Q X) X
instance {r : V → Hp → VK → Prop} {wr : Rf → VW} {ta : TE} {wa : VW} [ha : VE K B E ta wa] [hr : V1 K B E r wr] : VE K B E (tUn r ta) (vUn wr wa) where
  run := fun {as γ σ G H Q Qv Xv} S h k kx => by
    refine ha.run S h (fun r1 γ1 as1 v1 G1 H1 p1 g1 S1 rr1 q1 => ?_) kx
    exact hr.run S1 rr1 q1 (k.mono p1 g1) (kx.mono p1 g1)
/-- two values, looked at -/
def peek2 (f : T → T → RQ → Env → Prop) : Rf → Rf → VW := fun r1 r2 γ Q _ => peek r1 γ fun x => peek r2 γ fun y => f x y Q γ
def int2 (C : Int → Int → Prop) (f : Int → Int → T) : T → T → RQ → Env → Prop := fun x y Q γ => match x, y with
  | .int i, .int j => C i j ∧ Q (.val (f i j)) γ
  | _, _ => False
def int20 (f : Int → Int → T) : T → T → RQ → Env → Prop := fun x y Q γ => match x, y with
  | .int i, .int j => Q (.val (f i j)) γ
  | _, _ => False
section
variable {as : List Addr} {γ : Env} {σ : L2.St} {G H : Hp} {v : V} {rx : Rf}
theorem peek_int {Q : T → Prop} (S : StR K B as γ σ G H) (rr : RR K B.ex as G rx v) (h : peek rx γ Q) : ∃ t, Q t ∧ ∀ i, t = .int i → v = .int i := by
  obtain ⟨t, q, z⟩ := peek_rp S rr h
  exact ⟨t, q, fun i e => by subst e; cases z; rfl⟩
end
theorem v2_int {C : Int → Int → Prop} {f : Int → Int → T} {g : Int → Int → V} (hg : ∀ (G : Hp) (i j : Int), Rp K G (g i j) (f i j)) : V2 K B E (rI C g) (peek2 (int2 C f)) where
  run := fun {as γ σ G H x y rx ry Q Qv Xv} S r1 r2 h k _ => by
    obtain ⟨t1, h, e1⟩ := peek_int S r1 h
    obtain ⟨t2, h, e2⟩ := peek_int S r2 h
    unfold int2 at h
    split at h
    · exact ⟨_, _, e1 _ rfl, e2 _ rfl, h.1, kval k S (hg _ _ _) h.2⟩
    · exact h.elim
theorem v2_int0 {f : Int → Int → T} {g : Int → Int → V} (hg : ∀ (G : Hp) (i j : Int), Rp K G (g i j) (f i j)) : V2 K B E (rI0 g) (peek2 (int20 f)) where
  run := fun {as γ σ G H x y rx ry Q Qv Xv} S r1 r2 h k _ => by
    obtain ⟨t1, h, e1⟩ := peek_int S r1 h
    obtain ⟨t2, h, e2⟩ := peek_int S r2 h
    unfold int20 at h
    split at h
    · exact ⟨_, _, e1 _ rfl, e2 _ rfl, kval k S (hg _ _ _) h⟩
    · exact h.elim
instance {C : Int → Int → Prop} {f : Int → Int → Int} : V2 K B E (rI C fun i j => .int (f i j)) (peek2 (int2 C fun i j => .int (f i j))) := v2_int fun _ _ _ => .int _
instance {f : Int → Int → Int} : V2 K B E (rI0 fun i j => .int (f i j)) (peek2 (int20 fun i j => .int (f i j))) := v2_int0 fun _ _ _ => .int _
instance {f : Int → Int → Bool} : V2 K B E (rI0 fun i j => .bl (f i j)) (peek2 (int20 fun i j => .bl (f i j))) := v2_int0 fun _ _ _ => .bl _
def int1 (f : Int → T) : Rf → VW := fun r γ Q _ => peek r γ fun x => match x with
  | .int i => Q (.val (f i)) γ
  | _ => False
instance {f : Int → Int} : V1 K B E (rU fun i => .int (f i)) (int1 fun i => .int (f i)) where
  run := fun {as γ σ G H x rx Q Qv Xv} S r1 h k _ => by
    obtain ⟨t1, h, e1⟩ := peek_int S r1 h
    split at h
    · exact ⟨_, e1 _ rfl, kval k S (.int _) h⟩
    · exact h.elim
end
end VL
set_option Elab.async false
set_option linter.all false
set_option maxRecDepth 100000
set_option maxHeartbeats 4000000
/-! readings over values: data, sequences, tests, built-in calls -/
namespace VL
open PySem PySem.Spec PyProof.Rows L2 XR
/-! ### data -/
mutual
def toD : T → PyData
  | .bl b => .bool b
  | .int i => .int i
  | .str s => .str s
  | .lst ts => .list (toDs ts)
  | .scr ts => .list (toDs ts)
  | .tup ts => .tuple (toDs ts)
  | .non => .none
  | .ty _ => .none
  | .cls _ => .none
  | .rng _ _ => .none
  | .obj _ _ => .none
  | .dk _ => .none
  | .dt _ => .none
def toDs : List T → List PyData
  | [] => []
  | t :: r => toD t :: toDs r
end
mutual
def dataT : T → Bool
  | .bl _ => true
  | .int _ => true
  | .str _ => true
  | .lst ts => dataTs ts
  | .scr ts => dataTs ts
  | .tup ts => dataTs ts
  | .non => true
  | .ty _ => false
  | .cls _ => false
  | .rng _ _ => false
  | .obj _ _ => false
  | .dk _ => false
  | .dt _ => false
def dataTs : List T → Bool
  | [] => true
  | t :: r => dataT t && dataTs r
end
mutual
def depT : T → Nat
  | .lst ts => depTs ts + 1
  | .scr ts => depTs ts + 1
  | .tup ts => depTs ts + 1
  | .bl _ => 0
  | .int _ => 0
  | .str _ => 0
  | .non => 0
  | .ty _ => 0
  | .cls _ => 0
  | .rng _ _ => 0
  | .obj _ _ => 0
  | .dk _ => 0
  | .dt _ => 0
def depTs : List T → Nat
  | [] => 0
  | t :: r => max (depT t) (depTs r)
end
/-- == of data -/
def eqT (x y : T) : Bool := PyData.eqv (toD x) (toD y)
/-- data that == may look at -/
def okD (t : T) : Bool := dataT t && decide (depT t ≤ 64)
section
variable {K : PySem.W.Frag} {H : Hp}
mutual
theorem Rp.dp : ∀ {t : T} {v : V}, Rp K H v t → dataT t = true → Dp K H v (toD t)
  | _, _, .non, _ => .non
  | _, _, .bl b, _ => .bl b
  | _, _, .int i, _ => .int i
  | _, _, .str s _, _ => .str s
  | _, _, .lst s a, h => .lst (SqL.of s) (RpAll.dp a h)
  | _, _, .scr s a, h => .lst s (RpAll.dp a h)
  | _, _, .tup s a, h => .tup s.t (RpAll.dp a h)
  | _, _, .ty _, h => by cases h
  | _, _, .cls _, h => by cases h
  | _, _, .rng _, h => by cases h
  | _, _, .obj _ _ _, h => by cases h
  | _, _, .dk _ _ _, h => by cases h
  | _, _, .dt _ _ _, h => by cases h
theorem RpAll.dp : ∀ {ts : List T} {vs : List V}, RpAll K H vs ts → dataTs ts = true → DpAll K H vs (toDs ts)
  | _, _, .nil, _ => .nil
  | _, _, .cons a b, h => by
    have h2 := Bool.and_eq_true_iff.mp h
    exact .cons (Rp.dp a h2.1) (RpAll.dp b h2.2)
end
mutual
theorem Rp.lay : ∀ {t : T} {v : V}, Rp K H v t → dataT t = true → (toD t).canLay0 = true
  | _, _, .non, _ => rfl
  | _, _, .bl b, _ => rfl
  | _, _, .int i, _ => rfl
  | _, _, .str s h, _ => h
  | _, _, .lst s a, h => RpAll.lay a h
  | _, _, .scr s a, h => RpAll.lay a h
  | _, _, .tup s a, h => RpAll.lay a h
  | _, _, .ty _, h => by cases h
  | _, _, .cls _, h => by cases h
  | _, _, .rng _, h => by cases h
  | _, _, .obj _ _ _, h => by cases h
  | _, _, .dk _ _ _, h => by cases h
  | _, _, .dt _ _ _, h => by cases h
theorem RpAll.lay : ∀ {ts : List T} {vs : List V}, RpAll K H vs ts → dataTs ts = true → PyData.canLayAll0 (toDs ts) = true
  | _, _, .nil, _ => rfl
  | _, _, .cons a b, h => by
    have h2 := Bool.and_eq_true_iff.mp h
    show (PyData.canLay0 _ && PyData.canLayAll0 _) = true
    rw [Rp.lay a h2.1, RpAll.lay b h2.2]
    rfl
end
mutual
theorem dep_eq : ∀ (t : T), (toD t).depth = depT t
  | .lst ts => by show PyData.depthAll _ + 1 = depTs ts + 1; rw [deps_eq ts]
  | .scr ts => by show PyData.depthAll _ + 1 = depTs ts + 1; rw [deps_eq ts]
  | .tup ts => by show PyData.depthAll _ + 1 = depTs ts + 1; rw [deps_eq ts]
  | .bl _ => rfl
  | .int _ => rfl
  | .str _ => rfl
  | .non => rfl
  | .ty _ => rfl
  | .cls _ => rfl
  | .rng _ _ => rfl
  | .obj _ _ => rfl
  | .dk _ => rfl
  | .dt _ => rfl
theorem deps_eq : ∀ (ts : List T), PyData.depthAll (toDs ts) = depTs ts
  | [] => rfl
  | t :: r => by show max _ _ = max _ _; rw [dep_eq t, deps_eq r]
end
theorem Rp.shaped {t : T} {v : V} (h : Rp K H v t) (o : okD t = true) : SeqAt.shaped (toD t) = true := by
  have h2 := Bool.and_eq_true_iff.mp o
  show ((toD t).canLay0 && decide ((toD t).depth ≤ 64)) = true
  rw [h.lay h2.1, dep_eq]
  exact h2.2
theorem okD_data {t : T} (o : okD t = true) : dataT t = true := (Bool.and_eq_true_iff.mp o).1
end
def nb : Bool → Bool → Bool
  | true, b => !b
  | false, b => b
/-- the answer of == -/
def eqQ (neg : Bool) (x y : T) (Q : Bool → Prop) : Prop :=
  match x, y with
  | .int i, .int j => Q (nb neg (decide (i = j)))
  | .str i, .str j => Q (nb neg (decide (i = j)))
  | .bl i, .bl j => Q (nb neg (decide (i = j)))
  | x, y => okD x = true ∧ okD y = true ∧ Q (nb neg (eqT x y))
theorem eqQ_ok {neg : Bool} {x y : T} {Q : Bool → Prop} (h : eqQ neg x y Q) : okD x = true ∧ okD y = true ∧ Q (nb neg (eqT x y)) := by
  have e1 : ∀ i j : Int, eqT (.int i) (.int j) = decide (i = j) := fun i j => by
    show (i == j) = _
    rw [Bool.eq_iff_iff]; simp
  have e2 : ∀ i j : Str, eqT (.str i) (.str j) = decide (i = j) := fun i j => by
    show (i == j) = _
    rw [Bool.eq_iff_iff]; simp
  have e3 : ∀ i j : Bool, eqT (.bl i) (.bl j) = decide (i = j) := fun i j => by
    show (i == j) = _
    rw [Bool.eq_iff_iff]; simp
  cases x <;> cases y <;> first
    | exact h
    | exact ⟨rfl, rfl, by rw [e1]; exact h⟩
    | exact ⟨rfl, rfl, by rw [e2]; exact h⟩
    | exact ⟨rfl, rfl, by rw [e3]; exact h⟩
/-- .. == [] -/
def eqQN (neg : Bool) (x y : T) (Q : Bool → Prop) : Prop :=
  match y with
  | .lst [] => match x with
    | .lst ts => okD (.lst ts) = true ∧ Q (nb neg ts.isEmpty)
    | .scr ts => okD (.scr ts) = true ∧ Q (nb neg ts.isEmpty)
    | x => okD x = true ∧ Q (nb neg (eqT x (.lst [])))
  | y => okD x = true ∧ okD y = true ∧ Q (nb neg (eqT x y))
theorem eqQN_ok {neg : Bool} {x y : T} {Q : Bool → Prop} (h : eqQN neg x y Q) : okD x = true ∧ okD y = true ∧ Q (nb neg (eqT x y)) := by
  have e4 : ∀ ts : List T, eqT (.lst ts) (.lst []) = ts.isEmpty := fun ts => by cases ts <;> rfl
  have e5 : ∀ ts : List T, eqT (.scr ts) (.lst []) = ts.isEmpty := fun ts => by cases ts <;> rfl
  unfold eqQN at h
  split at h
  · split at h
    · exact ⟨h.1, rfl, by rw [e4]; exact h.2⟩
    · exact ⟨h.1, rfl, by rw [e5]; exact h.2⟩
    · exact ⟨h.1, rfl, h.2⟩
  · exact h
def vEqN (neg : Bool) : Rf → Rf → VW := peek2 fun x y Q γ => eqQN neg x y fun b => Q (.val (.bl b)) γ
def vEq (neg : Bool) : Rf → Rf → VW := peek2 fun x y Q γ => eqQ neg x y fun b => Q (.val (.bl b)) γ
section
variable {K : PySem.W.Frag} {B : Bs} {E : L2.St → XK}
section
variable {as : List Addr} {γ : Env} {σ : L2.St} {G H : Hp} {r1 r2 : Rf} {x y : V}
theorem peek2_rp {f : T → T → RQ → Env → Prop} {Q : RQ} {X : XQ} (S : StR K B as γ σ G H) (h1 : RR K B.ex as G r1 x) (h2 : RR K B.ex as G r2 y) (h : peek2 f r1 r2 γ Q X) : ∃ t u, Rp K H x t ∧ Rp K H y u ∧ f t u Q γ := by
  obtain ⟨t, h, e1⟩ := peek_rp S h1 h
  obtain ⟨u, h, e2⟩ := peek_rp S h2 h
  exact ⟨t, u, e1, e2, h⟩
end
instance : V2 K B E (rEqD K) (vEq false) where
  run := fun {as γ σ G H x y rx ry Q Qv Xv} S r1 r2 h k _ => by
    obtain ⟨t, u, e1, e2, h⟩ := peek2_rp S r1 r2 h
    obtain ⟨o1, o2, q⟩ := eqQ_ok h
    exact ⟨_, _, e1.dp (okD_data o1), e2.dp (okD_data o2), e1.shaped o1, e2.shaped o2, kval k S (.bl _) q⟩
instance : V2 K B E (rNeD K) (vEq true) where
  run := fun {as γ σ G H x y rx ry Q Qv Xv} S r1 r2 h k _ => by
    obtain ⟨t, u, e1, e2, h⟩ := peek2_rp S r1 r2 h
    obtain ⟨o1, o2, q⟩ := eqQ_ok h
    exact ⟨_, _, e1.dp (okD_data o1), e2.dp (okD_data o2), e1.shaped o1, e2.shaped o2, kval k S (.bl _) q⟩
theorem v2_eqN : V2 K B E (rEqD K) (vEqN false) where
  run := fun {as γ σ G H x y rx ry Q Qv Xv} S r1 r2 h k _ => by
    obtain ⟨t, u, e1, e2, h⟩ := peek2_rp S r1 r2 h
    obtain ⟨o1, o2, q⟩ := eqQN_ok h
    exact ⟨_, _, e1.dp (okD_data o1), e2.dp (okD_data o2), e1.shaped o1, e2.shaped o2, kval k S (.bl _) q⟩
theorem v2_neN : V2 K B E (rNeD K) (vEqN true) where
  run := fun {as γ σ G H x y rx ry Q Qv Xv} S r1 r2 h k _ => by
    obtain ⟨t, u, e1, e2, h⟩ := peek2_rp S r1 r2 h
    obtain ⟨o1, o2, q⟩ := eqQN_ok h
    exact ⟨_, _, e1.dp (okD_data o1), e2.dp (okD_data o2), e1.shaped o1, e2.shaped o2, kval k S (.bl _) q⟩
end
/-! ### x in s: items that are data; one text in another; an int in a range -/
def rInU (K : PySem.W.Frag) (neg : Bool) : R2 := fun x y H Q => (∃ d ds, Dp K H x d ∧ (Dp K H y (.list ds) ∨ Dp K H y (.tuple ds)) ∧ SeqAt.shaped d = true ∧ SeqAt.shaped (.list ds) = true ∧ Q (.bl (nb neg (ds.any fun z => PyData.eqv z d))) H) ∨
  (∃ i j, x = .str i ∧ y = .str j ∧ Q (.bl (nb neg (!(Builtin.Str.occurrences j i 0 j.length 1).isEmpty))) H)
section
variable {X : Cx}
theorem op_inU (hu : X.A.units + 65 < cLine) : OpR X (compareOp .In) (rInU X.K false) := by
  intro pins s σ H x y v u Q I rx ry h
  rcases h with ⟨d, ds, hd, he, sd, se, q⟩ | ⟨i, j, e1, e2, q⟩
  · obtain ⟨as, r1⟩ := Dp.reads I d x v hd rx
    rcases he with he | he
    · obtain ⟨bs, r2⟩ := Dp.reads I (.list ds) y u he ry
      exact SeqAt.in_list_reads r2 r1 (SeqAt.canLay_of_shaped se) (SeqAt.canLay_of_shaped sd) (room_in_shaped sd hu) ⟨.bl _, H, I, rfl, q⟩
    · obtain ⟨bs, r2⟩ := Dp.reads I (.tuple ds) y u he ry
      exact SeqAt.in_tuple_reads r2 r1 (SeqAt.canLay_of_shaped se) (SeqAt.canLay_of_shaped sd) (room_in_shaped sd hu) ⟨.bl _, H, I, rfl, q⟩
  · exact op_in_str pins s σ H x y v u Q I rx ry ⟨i, j, e1, e2, q⟩
theorem op_notInU (hu : X.A.units + 65 < cLine) : OpR X (compareOp .NotIn) (rInU X.K true) := by
  intro pins s σ H x y v u Q I rx ry h
  rcases h with ⟨d, ds, hd, he, sd, se, q⟩ | ⟨i, j, e1, e2, q⟩
  · obtain ⟨as, r1⟩ := Dp.reads I d x v hd rx
    rcases he with he | he
    · obtain ⟨bs, r2⟩ := Dp.reads I (.list ds) y u he ry
      exact SeqAt.notIn_list_reads r2 r1 (SeqAt.canLay_of_shaped se) (SeqAt.canLay_of_shaped sd) (room_in_shaped sd hu) ⟨.bl _, H, I, rfl, q⟩
    · obtain ⟨bs, r2⟩ := Dp.reads I (.tuple ds) y u he ry
      exact SeqAt.notIn_tuple_reads r2 r1 (SeqAt.canLay_of_shaped se) (SeqAt.canLay_of_shaped sd) (room_in_shaped sd hu) ⟨.bl _, H, I, rfl, q⟩
  · subst e1 e2
    obtain ⟨t, rfl⟩ := rx
    obtain ⟨t', rfl⟩ := ry
    exact PyProof.Rows.notIn_str (fin_bl I q rfl)
end
def anyT (x : T) (ts : List T) : Bool := ts.any fun z => eqT z x
def inQ (neg : Bool) (x y : T) (Q : Bool → Prop) : Prop :=
  match y with
  | .str j => match x with
    | .str i => Q (nb neg (!(Builtin.Str.occurrences j i 0 j.length 1).isEmpty))
    | _ => False
  | .lst ts => okD x = true ∧ okD (.lst ts) = true ∧ Q (nb neg (anyT x ts))
  | .tup ts => okD x = true ∧ okD (.lst ts) = true ∧ Q (nb neg (anyT x ts))
  | .scr ts => okD x = true ∧ okD (.lst ts) = true ∧ Q (nb neg (anyT x ts))
  | _ => False
def vIn (neg : Bool) : Rf → Rf → VW := peek2 fun x y Q γ => inQ neg x y fun b => Q (.val (.bl b)) γ
theorem toDs_map : ∀ ts : List T, toDs ts = ts.map toD
  | [] => rfl
  | t :: r => congrArg _ (toDs_map r)
theorem any_toDs (x : T) (ts : List T) : ((toDs ts).any fun z => PyData.eqv z (toD x)) = anyT x ts := by
  rw [toDs_map, List.any_map]; rfl
section
variable {K : PySem.W.Frag} {B : Bs} {E : L2.St → XK}
theorem v2_in {neg : Bool} : V2 K B E (rInU K neg) (vIn neg) where
  run := fun {as γ σ G H x y rx ry Q Qv Xv} S r1 r2 h k _ => by
    obtain ⟨t, u, e1, e2, h⟩ := peek2_rp S r1 r2 h
    unfold inQ at h
    split at h
    · split at h
      · cases e1
        cases e2
        exact .inr ⟨_, _, rfl, rfl, kval k S (.bl _) h⟩
      · exact h.elim
    · obtain ⟨o1, o2, q⟩ := h
      refine .inl ⟨_, _, e1.dp (okD_data o1), .inl (e2.dp (okD_data o2)), e1.shaped o1, e2.shaped o2, ?_⟩
      rw [any_toDs]
      exact kval k S (.bl _) q
    · rename_i ts
      obtain ⟨o1, o2, q⟩ := h
      have o3 : okD (.tup ts) = true := o2
      refine .inl ⟨_, _, e1.dp (okD_data o1), .inr (e2.dp (okD_data o3)), e1.shaped o1, e2.shaped o3, ?_⟩
      rw [any_toDs]
      exact kval k S (.bl _) q
    · rename_i ts
      obtain ⟨o1, o2, q⟩ := h
      have o3 : okD (.scr ts) = true := o2
      refine .inl ⟨_, _, e1.dp (okD_data o1), .inl (e2.dp (okD_data o3)), e1.shaped o1, e2.shaped o3, ?_⟩
      rw [any_toDs]
      exact kval k S (.bl _) q
    · exact h.elim
instance : V2 K B E (rInU K false) (vIn false) := v2_in
instance : V2 K B E (rInU K true) (vIn true) := v2_in
/-! ### an item, the length, truth -/
def ixQ (x y : T) (Q : T → Prop) : Prop :=
  match y with
  | .int n => match x with
    | .lst ts => isS (atL ts n) Q
    | .tup ts => isS (atL ts n) Q
    | .scr ts => isS (atL ts n) Q
    | .str z => z.length ≤ sizeLine ∧ isS (atL z.cps.toList n) fun c => Q (.str ⟨#[c]⟩)
    | _ => False
  | _ => False
def vIx : Rf → Rf → VW := peek2 fun x y Q γ => ixQ x y fun t => Q (.val t) γ
theorem RpAll.atI {G : Hp} {vs : List V} {ts : List T} {n : Int} {t : T} (h : RpAll K G vs ts) (e : L2.atI ts n = some t) : ∃ v, L2.atI vs n = some v ∧ Rp K G v t := by
  unfold L2.atI at e ⊢
  rw [h.length]
  cases hi : ixN ts.length n with
  | none => rw [hi] at e; cases e
  | some j =>
    rw [hi] at e
    exact RpAll.get' h e
theorem strOk_at {z : Str} {n : Int} {c : Nat} (h : PyData.strOk z = true) (e : L2.atI z.cps.toList n = some c) : PyData.strOk (⟨#[c]⟩ : Str) = true := by
  have hc : c ∈ z.cps.toList := by
    unfold L2.atI at e
    cases hi : ixN z.cps.toList.length n with
    | none => rw [hi] at e; cases e
    | some j => rw [hi] at e; exact List.mem_of_getElem? e
  have h : z.cps.all (· < 0x110000) = true := h
  rw [Array.all_eq_true_iff_forall_mem] at h
  have := h c (by simpa using hc)
  show (#[c] : Array Nat).all (· < 0x110000) = true
  simpa using this
instance : V2 K B E (rIx K) vIx where
  run := fun {as γ σ G H x y rx ry Q Qv Xv} S r1 r2 h k _ => by
    obtain ⟨t, h, z⟩ := peek_ok S r1 h
    obtain ⟨u, h, e2⟩ := peek_rp S r2 h
    unfold ixQ at h
    split at h
    · cases e2
      split at h
      · obtain ⟨t, e, q⟩ := isS_e h
        rw [atL_eq] at e
        rcases z with z | ⟨a, rfl, acc, z1, z2⟩
        · cases z with | lst z1 z2 =>
          obtain ⟨v, ev, rv⟩ := z2.atI e
          exact .inl ⟨_, _, _, v, rfl, rfl, SqL.of (S.vw _ _ z1), ev, kval k S rv q⟩
        · obtain ⟨v, ev, rv⟩ := z2.atI e
          exact .inl ⟨_, _, _, v, rfl, rfl, SqL.of z1, ev, kval k S rv q⟩
      · obtain ⟨t, e, q⟩ := isS_e h
        rw [atL_eq] at e
        rcases z with z | ⟨a, rfl, z1⟩
        · cases z with | tup z1 z2 =>
          obtain ⟨v, ev, rv⟩ := z2.atI e
          exact .inr (.inl ⟨_, _, _, v, rfl, rfl, SqT.same z1.t S.vw, ev, kval k S rv q⟩)
        · exact z1.elim
      · obtain ⟨t, e, q⟩ := isS_e h
        rw [atL_eq] at e
        rcases z with z | ⟨a, rfl, z1⟩
        · cases z with | scr z1 z2 =>
          obtain ⟨v, ev, rv⟩ := z2.atI e
          exact .inl ⟨_, _, _, v, rfl, rfl, SqL.same z1 S.vw, ev, kval k S rv q⟩
        · exact z1.elim
      · obtain ⟨hz, h⟩ := h
        obtain ⟨c, e, q⟩ := isS_e h
        rw [atL_eq] at e
        rcases z with z | ⟨a, rfl, z1⟩
        · cases z with | str _ ok =>
          exact .inr (.inr ⟨_, _, c, rfl, rfl, hz, e, kval k S (.str _ (strOk_at ok e)) q⟩)
        · exact z1.elim
      · exact h.elim
    · exact h.elim
end
/-- the number of items -/
def lenQ (x : T) (Q : Int → Prop) : Prop :=
  match x with
  | .lst ts => Q (ts.length : Int)
  | .tup ts => Q (ts.length : Int)
  | .scr ts => Q (ts.length : Int)
  | .str z => z.length ≤ sizeLine ∧ Q (z.length : Int)
  | _ => False
/-- one argument, looked at -/
def look1 (f : T → RQ → Env → Prop) : List Rf → VW := fun rs γ Q _ => match rs with
  | [r] => peek r γ fun t => f t Q γ
  | _ => False
def look2 (f : T → T → RQ → Env → Prop) : List Rf → VW := fun rs γ Q X => match rs with
  | [r, r2] => peek2 f r r2 γ Q X
  | _ => False
section
variable {K : PySem.W.Frag} {B : Bs} {E : L2.St → XK}
section
variable {as : List Addr} {γ : Env} {σ : L2.St} {G H : Hp} {rs : List Rf} {vs : List V}
theorem look1_ok {f : T → RQ → Env → Prop} {Q : RQ} {X : XQ} (S : StR K B as γ σ G H) (h1 : RRs K B.ex as G rs vs) (h : look1 f rs γ Q X) : ∃ v t, vs = [v] ∧ (Rp K G v t ∨ ∃ a, v = .ref a ∧ MutR K G H a t) ∧ f t Q γ := by
  unfold look1 at h
  split at h
  · cases h1 with | cons a b =>
    cases b
    obtain ⟨t, q, z⟩ := peek_ok S a h
    exact ⟨_, t, rfl, z, q⟩
  · exact h.elim
theorem rp_any {v : V} {t : T} (S : StR K B as γ σ G H) (z : Rp K G v t ∨ ∃ a, v = .ref a ∧ MutR K G H a t) : Rp K H v t := by
  rcases z with z | ⟨a, rfl, z⟩
  · exact z.mono S.vw
  · exact z.rpH S.vw
theorem look2_ok {f : T → T → RQ → Env → Prop} {Q : RQ} {X : XQ} (S : StR K B as γ σ G H) (h1 : RRs K B.ex as G rs vs) (h : look2 f rs γ Q X) : ∃ v u t s, vs = [v, u] ∧ (Rp K G v t ∨ ∃ a, v = .ref a ∧ MutR K G H a t) ∧ (Rp K G u s ∨ ∃ a, u = .ref a ∧ MutR K G H a s) ∧ f t s Q γ := by
  unfold look2 at h
  split at h
  · cases h1 with | cons a b =>
    cases b with | cons b c =>
    cases c
    obtain ⟨t, h, z⟩ := peek_ok S a h
    obtain ⟨s, h, z2⟩ := peek_ok S b h
    exact ⟨_, _, t, s, rfl, z, z2, h⟩
  · exact h.elim
end
def rLenU (K : PySem.W.Frag) : List V → Hp → VK → Prop := fun xs H Q => ∃ x n, xs = [x] ∧ LenV K x H n ∧ Q (.int n) H
theorem call_lenU {X : Cx} : CallR X (.builtin "len") (rLenU X.K) := call_len
def vLen : List Rf → VW := look1 fun t Q γ => lenQ t fun n => Q (.val (.int n)) γ
instance : VC K B E (rLenU K) vLen where
  run := fun {as γ σ G H vs rs Q Qv Xv} S r1 h k _ => by
    obtain ⟨v, t, rfl, z, h⟩ := look1_ok S r1 h
    have z := rp_any S z
    unfold lenQ at h
    split at h
    · cases z with | lst z1 z2 => exact ⟨_, _, rfl, .inl ⟨_, SqL.of z1, rfl⟩, by rw [z2.length]; exact kval k S (.int _) h⟩
    · cases z with | tup z1 z2 => exact ⟨_, _, rfl, .inr ⟨_, z1.t, rfl⟩, by rw [z2.length]; exact kval k S (.int _) h⟩
    · cases z with | scr z1 z2 => exact ⟨_, _, rfl, .inl ⟨_, z1, rfl⟩, by rw [z2.length]; exact kval k S (.int _) h⟩
    · cases z with | str _ ok => exact ⟨_, _, rfl, ⟨h.1, rfl⟩, kval k S (.int _) h.2⟩
    · exact h.elim
/-! ### other built-in calls -/
def rInt1 : List V → Hp → VK → Prop := fun xs H Q => (∃ i, xs = [.int i] ∧ Q (.int i) H) ∨ ∃ k, xs = [.bl k] ∧ Q (.int (if k then 1 else 0)) H
theorem call_intU {X : Cx} : CallR X (.type "int") rInt1 := call_int1
def vInt : List Rf → VW := look1 fun t Q γ => match t with
  | .int i => Q (.val (.int i)) γ
  | .bl b => Q (.val (.int (if b then 1 else 0))) γ
  | _ => False
instance : VC K B E rInt1 vInt where
  run := fun {as γ σ G H vs rs Q Qv Xv} S r1 h k _ => by
    obtain ⟨v, t, rfl, z, h⟩ := look1_ok S r1 h
    have z := rp_any S z
    split at h
    · cases z; exact .inl ⟨_, rfl, kval k S (.int _) h⟩
    · cases z; exact .inr ⟨_, rfl, kval k S (.int _) h⟩
    · exact h.elim
def rAbs : List V → Hp → VK → Prop := fun xs H Q => ∃ i, xs = [.int i] ∧ Q (.int (if i < 0 then -i else i)) H
theorem call_absU {X : Cx} : CallR X (.builtin "abs") rAbs := call_abs
def vAbs : List Rf → VW := look1 fun t Q γ => match t with
  | .int i => Q (.val (.int (if i < 0 then -i else i))) γ
  | _ => False
instance : VC K B E rAbs vAbs where
  run := fun {as γ σ G H vs rs Q Qv Xv} S r1 h k _ => by
    obtain ⟨v, t, rfl, z, h⟩ := look1_ok S r1 h
    have z := rp_any S z
    split at h
    · cases z; exact ⟨_, rfl, kval k S (.int _) h⟩
    · exact h.elim
def rMx : List V → Hp → VK → Prop := fun xs H Q => ∃ i j, xs = [.int i, .int j] ∧ Q (.int (if j > i then j else i)) H
def rMn : List V → Hp → VK → Prop := fun xs H Q => ∃ i j, xs = [.int i, .int j] ∧ Q (.int (if j < i then j else i)) H
theorem call_max2U {X : Cx} (hc : X.calm = true) : CallR X (.builtin "max") rMx := call_max2 hc
theorem call_min2U {X : Cx} (hc : X.calm = true) : CallR X (.builtin "min") rMn := call_min2 hc
def ints2 (f : Int → Int → Int) : List Rf → VW := look2 fun x y Q γ => match x, y with
  | .int i, .int j => Q (.val (.int (f i j))) γ
  | _, _ => False
instance : VC K B E rMx (ints2 fun i j => max i j) where
  run := fun {as γ σ G H vs rs Q Qv Xv} S r1 h k _ => by
    obtain ⟨v, u, t, s, rfl, z, z2, h⟩ := look2_ok S r1 h
    have z := rp_any S z
    have z2 := rp_any S z2
    split at h
    · cases z; cases z2
      refine ⟨_, _, rfl, ?_⟩
      rw [max_if, Int.max_comm]
      exact kval k S (.int _) (by rw [Int.max_comm]; exact h)
    · exact h.elim
instance : VC K B E rMn (ints2 fun i j => min i j) where
  run := fun {as γ σ G H vs rs Q Qv Xv} S r1 h k _ => by
    obtain ⟨v, u, t, s, rfl, z, z2, h⟩ := look2_ok S r1 h
    have z := rp_any S z
    have z2 := rp_any S z2
    split at h
    · cases z; cases z2
      refine ⟨_, _, rfl, ?_⟩
      rw [min_if, Int.min_comm]
      exact kval k S (.int _) (by rw [Int.min_comm]; exact h)
    · exact h.elim
def rGcdU : List V → Hp → VK → Prop := rGcd
instance : VC K B E rGcd (ints2 fun a b => ((Nat.gcd a.natAbs b.natAbs : Nat) : Int)) where
  run := fun {as γ σ G H vs rs Q Qv Xv} S r1 h k _ => by
    obtain ⟨v, u, t, s, rfl, z, z2, h⟩ := look2_ok S r1 h
    have z := rp_any S z
    have z2 := rp_any S z2
    split at h
    · cases z; cases z2
      exact ⟨_, _, rfl, kval k S (.int _) h⟩
    · exact h.elim
/-- str of an int -/
def rStrI : List V → Hp → VK → Prop := fun xs H Q => ∃ i, xs = [.int i] ∧ i.natAbs.log2 < 1920 ∧ Q (.str (toString i)) H
theorem call_strU {X : Cx} : CallR X (.type "str") rStrI := call_str_int
end
end VL
set_option Elab.async false
set_option linter.all false
set_option maxRecDepth 100000
set_option maxHeartbeats 4000000
/-! readings over values: displays, conversions, slices, texts, tests -/
namespace VL
open PySem PySem.Spec PyProof.Rows L2 XR
section
variable {K : PySem.W.Frag} {B : Bs} {E : L2.St → XK}
section
variable {as : List Addr} {γ : Env} {σ : L2.St} {G H : Hp} {Q : VK} {Qv : RQ} {p : Addr} {ts : List T} {vs : List V}
/-- a new list is given -/
theorem knew (k : KontP K B as σ G (rR K B) Q Qv) (S : StR K B as γ σ G H) (rp : RpAll K G vs ts) (h : Qv (.ref γ.mem.length) (γ.push (.mu (.lst ts)))) (hp : H p = none) : Q (.ref p) (L2.upd H p (.lst vs)) := by
  have S' := S.alloc (t := .lst ts) (o := .lst vs) hp ⟨vs, upd_same, rp⟩
  refine k (.ref γ.mem.length) _ _ _ G _ (List.prefix_append _ _) (Same.refl _) S' ⟨p, ?_, rfl⟩ h
  rw [← S.mlen, List.getElem?_append_right (Nat.le_refl _), Nat.sub_self]
  rfl
/-- a new tuple is given -/
theorem ktup (k : KontP K B as σ G (rR K B) Q Qv) (S : StR K B as γ σ G H) (rp : RpAll K G vs ts) (h : Qv (.val (.tup ts)) γ) (hp : H p = none) : Q (.ref p) (L2.upd H p (.tup vs)) := by
  obtain ⟨S', g⟩ := S.lay (o := .tup vs) hp
  exact k (.val (.tup ts)) _ _ _ _ _ (List.prefix_refl _) g S' (Rp.tup (.inl upd_same) (rp.mono g)) h
theorem ktupS (k : KontP K B as σ G (rR K B) Q Qv) (S : StR K B as γ σ G H) {a : Addr} (sq : SqX K G a vs) (rp : RpAll K G vs ts) (h : Qv (.val (.tup ts)) γ) : Q (.ref a) H :=
  kval k S (.tup sq rp) h
end
def Env.new (γ : Env) (t : T) (Q : RQ) : Prop := Q (.ref γ.mem.length) (γ.push (.mu t))
/-! ### argument lists, displays -/
def vNil : Env → (List Rf → Env → Prop) → XQ → Prop := fun γ Q _ => Q [] γ
def vCons (wa : VW) (wr : Env → (List Rf → Env → Prop) → XQ → Prop) : Env → (List Rf → Env → Prop) → XQ → Prop := fun γ Q X => wa γ (fun r γ1 => wr γ1 (fun rs γ2 => Q (r :: rs) γ2) X) X
instance : VA K B E tNil vNil := ⟨fun {as γ σ G H Q Qv Xv} S h k _ => k [] γ as [] G H (List.prefix_refl _) (Same.refl _) S .nil h⟩
instance {ta : TE} {tr : TA} {wa : VW} {wr : Env → (List Rf → Env → Prop) → XQ → Prop} [ha : VE K B E ta wa] [hr : VA K B E tr wr] : VA K B E (tCons ta tr) (vCons wa wr) where
  run := fun {as γ σ G H Q Qv Xv} S h k kx => by
    refine ha.run S h (fun r1 γ1 as1 v1 G1 H1 p1 g1 S1 rr1 q1 => ?_) kx
    refine hr.run S1 q1 (fun rs γ2 as2 vs G2 H2 p2 g2 S2 rr2 q2 => ?_) (kx.mono p1 g1)
    exact k _ _ _ _ _ _ (p1.trans p2) (g1.trans g2) S2 (.cons (RR.mono rr1 p2 g2) rr2) q2
/-- settled, one after another -/
def toTs : List Rf → Env → (List T → Env → Prop) → Prop
  | [], γ, Q => Q [] γ
  | r :: rs, γ, Q => toT r γ fun t γ1 => toTs rs γ1 fun ts γ2 => Q (t :: ts) γ2
theorem toTs_ok {as : List Addr} {σ : L2.St} {H : Hp} : ∀ {rs : List Rf} {vs : List V} {γ : Env} {G : Hp} {Q : List T → Env → Prop}, StR K B as γ σ G H → RRs K B.ex as G rs vs → toTs rs γ Q → ∃ ts γ' G', Same G G' ∧ StR K B as γ' σ G' H ∧ RpAll K G' vs ts ∧ Q ts γ'
  | _, _, γ, G, Q, S, .nil, h => ⟨[], γ, G, Same.refl _, S, .nil, h⟩
  | _, _, γ, G, Q, S, .cons a b, h => by
    obtain ⟨t, γ1, G1, g1, S1, rp1, h1⟩ := toT_ok S a h
    obtain ⟨ts, γ2, G2, g2, S2, rp2, h2⟩ := toTs_ok S1 (RRs.mono (List.prefix_refl _) g1 b) h1
    exact ⟨t :: ts, γ2, G2, g1.trans g2, S2, .cons (rp1.mono g2) rp2, h2⟩
def small (n : Nat) : Prop := n ≤ sizeLine
def vLst (wa : Env → (List Rf → Env → Prop) → XQ → Prop) : VW := fun γ Q X => wa γ (fun rs γ1 => toTs rs γ1 fun ts γ2 => small ts.length ∧ γ2.new (.lst ts) Q) X
def vTup (wa : Env → (List Rf → Env → Prop) → XQ → Prop) : VW := fun γ Q X => wa γ (fun rs γ1 => toTs rs γ1 fun ts γ2 => small ts.length ∧ Q (.val (.tup ts)) γ2) X
instance {t : TA} {wa : Env → (List Rf → Env → Prop) → XQ → Prop} [ha : VA K B E t wa] : VE K B E (tLst t) (vLst wa) where
  run := fun {as γ σ G H Q Qv Xv} S h k kx => by
    refine ha.run S h (fun rs γ1 as1 vs G1 H1 p1 g1 S1 rr1 q1 => ?_) kx
    obtain ⟨ts, γ2, G2, g2, S2, rp, hz, q⟩ := toTs_ok S1 rr1 q1
    exact ⟨by rw [rp.length]; exact hz, fun p hp => knew (k.mono p1 (g1.trans g2)) S2 rp q hp⟩
instance {t : TA} {wa : Env → (List Rf → Env → Prop) → XQ → Prop} [ha : VA K B E t wa] : VE K B E (tTup t) (vTup wa) where
  run := fun {as γ σ G H Q Qv Xv} S h k kx => by
    refine ha.run S h (fun rs γ1 as1 vs G1 H1 p1 g1 S1 rr1 q1 => ?_) kx
    obtain ⟨ts, γ2, G2, g2, S2, rp, hz, q⟩ := toTs_ok S1 rr1 q1
    exact ⟨by rw [rp.length]; exact hz, fun p hp => ktup (k.mono p1 (g1.trans g2)) S2 rp q hp⟩
/-! ### built-in calls of arguments -/
def vCB (wr : List Rf → VW) (wa : Env → (List Rf → Env → Prop) → XQ → Prop) : VW := fun γ Q X => wa γ (fun rs γ1 => wr rs γ1 Q X) X
instance {r : List V → Hp → VK → Prop} {wr : List Rf → VW} {t : TA} {wa : Env → (List Rf → Env → Prop) → XQ → Prop} [ha : VA K B E t wa] [hr : VC K B E r wr] : VE K B E (tCB r t) (vCB wr wa) where
  run := fun {as γ σ G H Q Qv Xv} S h k kx => by
    refine ha.run S h (fun rs γ1 as1 vs G1 H1 p1 g1 S1 rr1 q1 => ?_) kx
    exact hr.run S1 rr1 q1 (k.mono p1 g1) (kx.mono p1 g1)
/-- list(s), tuple(s) -/
def rListU (K : PySem.W.Frag) : List V → Hp → VK → Prop := fun xs H Q => ∃ p ys, xs = [.ref p] ∧ (SqL K H p ys ∨ SqT K H p ys) ∧ ∀ l, H l = none → Q (.ref l) (L2.upd H l (.lst ys))
def rTupU (K : PySem.W.Frag) : List V → Hp → VK → Prop := fun xs H Q => ∃ p ys, xs = [.ref p] ∧ ((SqL K H p ys ∧ ∀ l, H l = none → Q (.ref l) (L2.upd H l (.tup ys))) ∨ (SqT K H p ys ∧ Q (.ref p) H))
theorem call_listU {X : Cx} : CallR X (.type "list") (rListU X.K) := call_list_of
theorem call_tupU {X : Cx} : CallR X (.type "tuple") (rTupU X.K) := call_tuple_of
def vList : List Rf → VW := look1 fun t Q γ => seqT t fun _ ts => γ.new (.lst ts) Q
def vTuple : List Rf → VW := look1 fun t Q γ => seqT t fun _ ts => Q (.val (.tup ts)) γ
section
variable {as : List Addr} {γ : Env} {σ : L2.St} {G H : Hp} {v : V} {t : T}
theorem seq_any (S : StR K B as γ σ G H) {Q : Bool → List T → Prop} (z : Rp K G v t ∨ ∃ a, v = .ref a ∧ MutR K G H a t) (h : seqT t Q) : ∃ b ts a acc, v = .ref a ∧ SqK2 K H a acc b ∧ RpAll K G acc ts ∧ Q b ts ∧ (b = false → t = .tup ts ∧ SqX K G a acc) := by
  cases t with
  | lst ts =>
    rcases z with z | ⟨a, rfl, acc, z1, z2⟩
    · cases z with | lst z1 z2 => exact ⟨true, ts, _, _, rfl, SqL.of (S.vw _ _ z1), z2, h, fun e => by cases e⟩
    · exact ⟨true, ts, a, acc, rfl, SqL.of z1, z2, h, fun e => by cases e⟩
  | scr ts =>
    rcases z with z | ⟨a, rfl, z1⟩
    · cases z with | scr z1 z2 => exact ⟨true, ts, _, _, rfl, SqL.same z1 S.vw, z2, h, fun e => by cases e⟩
    · exact z1.elim
  | tup ts =>
    rcases z with z | ⟨a, rfl, z1⟩
    · cases z with | tup z1 z2 => exact ⟨false, ts, _, _, rfl, SqT.same z1.t S.vw, z2, h, fun _ => ⟨rfl, z1⟩⟩
    · exact z1.elim
  | _ => exact h.elim
end
instance : VC K B E (rListU K) vList where
  run := fun {as γ σ G H vs rs Q Qv Xv} S r1 h k _ => by
    obtain ⟨v, t, rfl, z, h⟩ := look1_ok S r1 h
    obtain ⟨b, ts, a, acc, rfl, sq, rp, q, _⟩ := seq_any S z h
    exact ⟨a, acc, rfl, sq.or, fun l hl => knew k S rp q hl⟩
instance : VC K B E (rTupU K) vTuple where
  run := fun {as γ σ G H vs rs Q Qv Xv} S r1 h k _ => by
    obtain ⟨v, t, rfl, z, h⟩ := look1_ok S r1 h
    obtain ⟨b, ts, a, acc, rfl, sq, rp, q, hb⟩ := seq_any S z h
    cases b with
    | true => exact ⟨a, acc, rfl, .inl ⟨sq, fun l hl => ktup k S rp q hl⟩⟩
    | false =>
      obtain ⟨_, sg⟩ := hb rfl
      exact ⟨a, acc, rfl, .inr ⟨sq, ktupS k S sg rp q⟩⟩
/-! ### slices -/
def rSlU (K : PySem.W.Frag) : V → Option Int → Option Int → Hp → VK → Prop := fun x lo hi H Q => rSlL K x lo hi H Q ∨ rSlA K x lo hi H Q ∨ rSlS x lo hi H Q
theorem sl_any {X : Cx} : SlR X (rSlU X.K) := by
  intro pins s σ H x v vl vu lo hi sl Q I r hs hl hu h
  rcases h with h | h | h
  · exact sl_list pins s σ H x v vl vu lo hi sl Q I r hs hl hu h
  · exact sl_tupA pins s σ H x v vl vu lo hi sl Q I r hs hl hu h
  · exact sl_str pins s σ H x v vl vu lo hi sl Q I r hs hl hu h
def cutT (xs : List T) (lo hi : Option Int) : List T := (xs.drop (HT.sIx xs.length 0 lo)).take (HT.sIx xs.length xs.length hi - HT.sIx xs.length 0 lo)
theorem RpAll.cut {G : Hp} {vs : List V} {ts : List T} (h : RpAll K G vs ts) (lo hi : Option Int) : RpAll K G (cutV vs lo hi) (cutT ts lo hi) := by
  unfold cutV cutT
  rw [h.length]
  exact (h.drop _).take _
theorem cut_whole {α : Type} (ts : List α) {a b : Nat} (h : a = 0 ∧ b = ts.length) : (ts.drop a).take (b - a) = ts := by
  rw [h.1, h.2, List.drop_zero, Nat.sub_zero, List.take_length]
def vNoPart : Env → (Option Int → Env → Prop) → XQ → Prop := fun γ Q _ => Q none γ
def vPart (wa : VW) : Env → (Option Int → Env → Prop) → XQ → Prop := fun γ Q X => wa γ (fun r γ1 => peek r γ1 fun t => match t with
  | .int i => Q (some i) γ1
  | _ => False) X
class VO (K : PySem.W.Frag) (B : Bs) (E : L2.St → XK) (t : TO) (w : outParam (Env → (Option Int → Env → Prop) → XQ → Prop)) : Prop where
  run : ∀ {as : List Addr} {γ : Env} {σ : L2.St} {G H : Hp} {Q : Option Int → Hp → Prop} {Qv : Option Int → Env → Prop} {Xv : XQ}, StR K B as γ σ G H → w γ Qv Xv → KontP K B as σ G (fun _ _ _ a b => a = b) Q Qv → KontX K B as σ G (E σ) Xv → t σ H Q
instance : VO K B E tNoPart vNoPart := ⟨fun {as γ σ G H Q Qv Xv} S h k _ => k none γ as none G H (List.prefix_refl _) (Same.refl _) S rfl h⟩
instance {ta : TE} {wa : VW} [ha : VE K B E ta wa] : VO K B E (tPart ta) (vPart wa) where
  run := fun {as γ σ G H Q Qv Xv} S h k kx => by
    refine ha.run S h (fun r1 γ1 as1 v1 G1 H1 p1 g1 S1 rr1 q1 => ?_) kx
    obtain ⟨t, q, z⟩ := peek_rp S1 rr1 q1
    split at q
    · cases z; exact ⟨_, rfl, k _ _ _ _ _ _ p1 g1 S1 rfl q⟩
    · exact q.elim
def slQ (t : T) (lo hi : Option Int) (Q : RQ) (γ : Env) : Prop :=
  match t with
  | .lst ts => γ.new (.lst (cutT ts lo hi)) Q
  | .scr ts => γ.new (.lst (cutT ts lo hi)) Q
  | .tup ts => Q (.val (.tup (cutT ts lo hi))) γ
  | .str z => z.length ≤ sizeLine ∧ Q (.val (.str (cutS z lo hi))) γ
  | _ => False
def vSl (we : VW) (wl wh : Env → (Option Int → Env → Prop) → XQ → Prop) : VW := fun γ Q X => we γ (fun r γ1 => wl γ1 (fun lo γ2 => wh γ2 (fun hi γ3 => peek r γ3 fun t => slQ t lo hi Q γ3) X) X) X
theorem strOk_cut {z : Str} (h : PyData.strOk z = true) (lo hi : Option Int) : PyData.strOk (cutS z lo hi) = true := (okS.cut (n := z.length) ⟨h, Nat.le_refl _⟩ lo hi).1
instance {te : TE} {tl th : TO} {we : VW} {wl wh : Env → (Option Int → Env → Prop) → XQ → Prop} [he : VE K B E te we] [hl : VO K B E tl wl] [hh : VO K B E th wh] : VE K B E (tSl (rSlU K) te tl th) (vSl we wl wh) where
  run := fun {as γ σ G H Q Qv Xv} S h k kx => by
    refine he.run S h (fun r1 γ1 as1 v1 G1 H1 p1 g1 S1 rr1 q1 => ?_) kx
    refine hl.run S1 q1 (fun lo γ2 as2 lo' G2 H2 p2 g2 S2 e2 q2 => ?_) (kx.mono p1 g1)
    subst e2
    refine hh.run S2 q2 (fun hi γ3 as3 hi' G3 H3 p3 g3 S3 e3 q3 => ?_) ((kx.mono p1 g1).mono p2 g2)
    subst e3
    have k3 := ((k.mono p1 g1).mono p2 g2).mono p3 g3
    have rr := RR.mono rr1 (p2.trans p3) (g2.trans g3)
    obtain ⟨t, q, z⟩ := peek_ok S3 rr q3
    unfold slQ at q
    split at q
    · rcases z with z | ⟨a, rfl, acc, z1, z2⟩
      · cases z with | lst z1 z2 => exact .inl ⟨_, _, rfl, SqL.of (S3.vw _ _ z1), fun p hp => knew k3 S3 (z2.cut lo hi) q hp⟩
      · exact .inl ⟨_, _, rfl, SqL.of z1, fun p hp => knew k3 S3 (z2.cut lo hi) q hp⟩
    · rcases z with z | ⟨a, rfl, z1⟩
      · cases z with | scr z1 z2 => exact .inl ⟨_, _, rfl, SqL.same z1 S3.vw, fun p hp => knew k3 S3 (z2.cut lo hi) q hp⟩
      · exact z1.elim
    · rename_i ts
      rcases z with z | ⟨a, rfl, z1⟩
      · cases z with | tup z1 z2 =>
        refine .inr (.inl ⟨_, _, rfl, SqT.same z1.t S3.vw, fun hw => ?_, fun _ p hp => ktup k3 S3 (z2.cut lo hi) q hp⟩)
        refine ktupS k3 S3 z1 z2 ?_
        have e : cutT ts lo hi = ts := by
          unfold cutT
          rw [z2.length] at hw
          exact cut_whole ts hw
        rw [e] at q
        exact q
      · exact z1.elim
    · rcases z with z | ⟨a, rfl, z1⟩
      · cases z with | str _ ok => exact .inr (.inr ⟨_, rfl, q.1, kval k3 S3 (.str _ (strOk_cut ok lo hi)) q.2⟩)
      · exact z1.elim
    · exact q.elim
/-- s[::-1] of a list -/
def vRevL (we : VW) : VW := fun γ Q X => we γ (fun r γ1 => peek r γ1 fun t => match t with
  | .lst ts => γ1.new (.lst ts.reverse) Q
  | _ => False) X
instance {te : TE} {we : VW} [he : VE K B E te we] : VE K B E (tRevL K te) (vRevL we) where
  run := fun {as γ σ G H Q Qv Xv} S h k kx => by
    refine he.run S h (fun r1 γ1 as1 v1 G1 H1 p1 g1 S1 rr1 q1 => ?_) kx
    have k1 := k.mono p1 g1
    obtain ⟨t, q, z⟩ := peek_ok S1 rr1 q1
    split at q
    · rcases z with z | ⟨a, rfl, acc, z1, z2⟩
      · cases z with | lst z1 z2 => exact ⟨_, _, rfl, SqL.of (S1.vw _ _ z1), fun p hp => knew k1 S1 z2.reverse q hp⟩
      · exact ⟨_, _, rfl, SqL.of z1, fun p hp => knew k1 S1 z2.reverse q hp⟩
    · exact q.elim
/-! ### + and * of lists, tuples, texts -/
def rAddU (K : PySem.W.Frag) : R2 := fun x y H Q => (∃ i j, x = .int i ∧ y = .int j ∧ Q (.int (i + j)) H) ∨ rCat x y H Q ∨ rCatA K x y H Q ∨ (∃ i j, x = .str i ∧ y = .str j ∧ i.length + j.length ≤ sizeLine ∧ Q (.str (i ++ j)) H)
theorem op_addU {X : Cx} : OpR X (binaryOp .Add) (rAddU X.K) := by
  intro pins s σ H x y v u Q I rx ry h
  rcases h with ⟨i, j, e1, e2, q⟩ | h | h | h
  · exact op_add pins s σ H x y v u Q I rx ry ⟨i, j, e1, e2, q⟩
  · exact op_cat pins s σ H x y v u Q I rx ry h
  · exact op_catA pins s σ H x y v u Q I rx ry h
  · exact op_add_str pins s σ H x y v u Q I rx ry h
def addQ (x y : T) (Q : RQ) (γ : Env) : Prop :=
  match x with
  | .int i => match y with
    | .int j => Q (.val (.int (i + j))) γ
    | _ => False
  | .lst ts => match y with
    | .lst us => small (ts.length + us.length) ∧ γ.new (.lst (ts ++ us)) Q
    | _ => False
  | .tup ts => match y with
    | .tup us => small (ts.length + us.length) ∧ Q (.val (.tup (ts ++ us))) γ
    | _ => False
  | .str i => match y with
    | .str j => small (i.length + j.length) ∧ Q (.val (.str (i ++ j))) γ
    | _ => False
  | _ => False
def vAdd : Rf → Rf → VW := peek2 addQ
theorem strOk_app {a b : Str} (h : PyData.strOk a = true) (k : PyData.strOk b = true) : PyData.strOk (a ++ b) = true := (okS.add (n := a.length) (m := b.length) ⟨h, Nat.le_refl _⟩ ⟨k, Nat.le_refl _⟩).1
section
variable {as : List Addr} {γ : Env} {σ : L2.St} {G H : Hp} {r1 r2 : Rf} {x y : V}
theorem peek2_ok {f : T → T → RQ → Env → Prop} {Q : RQ} {X : XQ} (S : StR K B as γ σ G H) (h1 : RR K B.ex as G r1 x) (h2 : RR K B.ex as G r2 y) (h : peek2 f r1 r2 γ Q X) : ∃ t u, (Rp K G x t ∨ ∃ a, x = .ref a ∧ MutR K G H a t) ∧ (Rp K G y u ∨ ∃ a, y = .ref a ∧ MutR K G H a u) ∧ f t u Q γ := by
  obtain ⟨t, h, e1⟩ := peek_ok S h1 h
  obtain ⟨u, h, e2⟩ := peek_ok S h2 h
  exact ⟨t, u, e1, e2, h⟩
theorem lst_any {ts : List T} (S : StR K B as γ σ G H) (z : Rp K G x (.lst ts) ∨ ∃ a, x = .ref a ∧ MutR K G H a (.lst ts)) : ∃ a acc, x = .ref a ∧ H a = some (.lst acc) ∧ RpAll K G acc ts := by
  rcases z with z | ⟨a, rfl, acc, z1, z2⟩
  · cases z with | lst z1 z2 => exact ⟨_, _, rfl, S.vw _ _ z1, z2⟩
  · exact ⟨_, _, rfl, z1, z2⟩
theorem tup_any {ts : List T} (z : Rp K G x (.tup ts) ∨ ∃ a, x = .ref a ∧ MutR K G H a (.tup ts)) : ∃ a acc, x = .ref a ∧ SqX K G a acc ∧ RpAll K G acc ts := by
  rcases z with z | ⟨a, rfl, z1⟩
  · cases z with | tup z1 z2 => exact ⟨_, _, rfl, z1, z2⟩
  · exact z1.elim
theorem int_any {i : Int} (z : Rp K G x (.int i) ∨ ∃ a, x = .ref a ∧ MutR K G H a (.int i)) : x = .int i := by
  rcases z with z | ⟨a, rfl, z1⟩
  · cases z; rfl
  · exact z1.elim
theorem str_any {i : Str} (z : Rp K G x (.str i) ∨ ∃ a, x = .ref a ∧ MutR K G H a (.str i)) : x = .str i ∧ PyData.strOk i = true := by
  rcases z with z | ⟨a, rfl, z1⟩
  · cases z with | str _ ok => exact ⟨rfl, ok⟩
  · exact z1.elim
theorem bl_any {i : Bool} (z : Rp K G x (.bl i) ∨ ∃ a, x = .ref a ∧ MutR K G H a (.bl i)) : x = .bl i := by
  rcases z with z | ⟨a, rfl, z1⟩
  · cases z; rfl
  · exact z1.elim
end
instance : V2 K B E (rAddU K) vAdd where
  run := fun {as γ σ G H x y rx ry Q Qv Xv} S r1 r2 h k _ => by
    obtain ⟨t, u, z1, z2, h⟩ := peek2_ok S r1 r2 h
    unfold addQ at h
    split at h
    · split at h
      · exact .inl ⟨_, _, int_any z1, int_any z2, kval k S (.int _) h⟩
      · exact h.elim
    · split at h
      · obtain ⟨a, xs, rfl, e1, p1⟩ := lst_any S z1
        obtain ⟨b, ys, rfl, e2, p2⟩ := lst_any S z2
        exact .inr (.inl ⟨a, b, xs, ys, rfl, rfl, e1, e2, by rw [p1.length, p2.length]; exact h.1, fun p hp => knew k S (p2.append p1) h.2 hp⟩)
      · exact h.elim
    · split at h
      · obtain ⟨a, xs, rfl, e1, p1⟩ := tup_any z1
        obtain ⟨b, ys, rfl, e2, p2⟩ := tup_any z2
        refine .inr (.inr (.inl ⟨a, b, xs, ys, rfl, rfl, SqT.same e1.t S.vw, SqT.same e2.t S.vw, by rw [p1.length, p2.length]; exact h.1, fun e => ?_, fun _ e => ?_, fun _ _ p hp => ktup k S (p2.append p1) h.2 hp⟩))
        · subst e
          cases p1
          exact ktupS k S e2 p2 h.2
        · subst e
          cases p2
          have q := h.2
          rw [List.append_nil] at q
          exact ktupS k S e1 p1 q
      · exact h.elim
    · split at h
      · obtain ⟨rfl, o1⟩ := str_any z1
        obtain ⟨rfl, o2⟩ := str_any z2
        exact .inr (.inr (.inr ⟨_, _, rfl, rfl, h.1, kval k S (.str _ (strOk_app o1 o2)) h.2⟩))
      · exact h.elim
    · exact h.elim
/-- [..] * n -/
def vRep : Rf → Rf → VW := peek2 fun x y Q γ => match x with
  | .lst ts => match y with
    | .int n => (-(2 ^ 63) ≤ n ∧ n < 2 ^ 63 ∧ small (ts.length * n.toNat)) ∧ γ.new (.lst (List.replicate n.toNat ts).flatten) Q
    | _ => False
  | _ => False
end
section
variable {K : PySem.W.Frag} {B : Bs} {E : L2.St → XK}
instance (priority := 3000) eqNilI {ta : TE} {wa wb : VW} [ha : VE K B E ta wa] [hb : VE K B E (tLst tNil) wb] : VE K B E (tOp (rEqD K) ta (tLst tNil)) (vOp (vEqN false) wa wb) :=
  have := v2_eqN (K := K) (B := B) (E := E)
  inferInstanceAs (VE K B E (tOp (rEqD K) ta (tLst tNil)) (vOp (vEqN false) wa wb))
instance (priority := 3000) neNilI {ta : TE} {wa wb : VW} [ha : VE K B E ta wa] [hb : VE K B E (tLst tNil) wb] : VE K B E (tOp (rNeD K) ta (tLst tNil)) (vOp (vEqN true) wa wb) :=
  have := v2_neN (K := K) (B := B) (E := E)
  inferInstanceAs (VE K B E (tOp (rNeD K) ta (tLst tNil)) (vOp (vEqN true) wa wb))
end
end VL
set_option Elab.async false
set_option linter.all false
set_option maxRecDepth 100000
set_option maxHeartbeats 4000000
/-! readings over values: more operators, texts, isinstance, fields, tests -/
namespace VL
open PySem PySem.Spec PyProof.Rows L2 XR
section
variable {K : PySem.W.Frag} {B : Bs} {E : L2.St → XK}
/-! ### * of lists and texts -/
def rMulU (K : PySem.W.Frag) : R2 := fun x y H Q => (∃ i j, x = .int i ∧ y = .int j ∧ (CMul i j ∨ CMulW i j) ∧ Q (.int (i * j)) H) ∨ rRep x y H Q ∨ rMulS x y H Q
theorem op_mulU {X : Cx} : OpR X (binaryOp .Mult) (rMulU X.K) := by
  intro pins s σ H x y v u Q I rx ry h
  rcases h with ⟨i, j, e1, e2, c, q⟩ | h | h
  · rcases c with c | c
    · exact op_mul pins s σ H x y v u Q I rx ry ⟨i, j, e1, e2, c, q⟩
    · exact op_mulW pins s σ H x y v u Q I rx ry ⟨i, j, e1, e2, c, q⟩
  · exact op_rep pins s σ H x y v u Q I rx ry h
  · exact op_mul_str pins s σ H x y v u Q I rx ry h
def mulQ (x y : T) (Q : RQ) (γ : Env) : Prop :=
  match x with
  | .int i => match y with
    | .int j => (CMul i j ∨ CMulW i j) ∧ Q (.val (.int (i * j))) γ
    | _ => False
  | .lst ts => match y with
    | .int n => (-(2 ^ 63) ≤ n ∧ n < 2 ^ 63 ∧ ts.length * n.toNat ≤ sizeLine) ∧ γ.new (.lst (List.replicate n.toNat ts).flatten) Q
    | _ => False
  | .str z => match y with
    | .int n => (1 ≤ n ∧ n ≤ 30 ∧ z.length ≤ 30) ∧ Q (.val (.str (mulS z n))) γ
    | _ => False
  | _ => False
def vMul : Rf → Rf → VW := peek2 mulQ
theorem strOk_empty : PyData.strOk Str.empty = true := by decide +kernel
theorem strOk_mul {a : Str} (h : PyData.strOk a = true) (n : Int) : PyData.strOk (mulS a n) = true := by
  have h : a.cps.all (fun c => decide (c < 0x110000)) = true := h
  unfold mulS
  split
  · exact strOk_empty
  · split
    · exact h
    · exact fold_all (fun c => decide (c < 0x110000)) a.cps h _ _ (by simp)
instance : V2 K B E (rMulU K) vMul where
  run := fun {as γ σ G H x y rx ry Q Qv Xv} S r1 r2 h k _ => by
    obtain ⟨t, u, z1, z2, h⟩ := peek2_ok S r1 r2 h
    unfold mulQ at h
    split at h
    · split at h
      · exact .inl ⟨_, _, int_any z1, int_any z2, h.1, kval k S (.int _) h.2⟩
      · exact h.elim
    · split at h
      · obtain ⟨a, xs, rfl, e1, p1⟩ := lst_any S z1
        refine .inr (.inl ⟨a, _, xs, rfl, int_any z2, e1, h.1.1, h.1.2.1, by rw [p1.length]; exact h.1.2.2, fun p hp => knew k S (p1.rep _) h.2 hp⟩)
      · exact h.elim
    · split at h
      · obtain ⟨rfl, o1⟩ := str_any z1
        exact .inr (.inr ⟨_, _, rfl, int_any z2, h.1.1, h.1.2.1, h.1.2.2, kval k S (.str _ (strOk_mul o1 _)) h.2⟩)
      · exact h.elim
    · exact h.elim
/-! ### texts of numbers, f-strings -/
theorem strOk_digits {s : String} (h : ∀ c ∈ s.toList, c.toNat < 0x110000) : PyData.strOk (Str.ofString s) = true := by
  have e : (Str.ofString s).cps = (s.toList.map Char.toNat).toArray := by rw [Str.ofString_eq_toList]
  show (Str.ofString s).cps.all _ = true
  rw [e]
  simp only [List.all_toArray, List.all_map, List.all_eq_true, Function.comp_apply, decide_eq_true_eq]
  intro c hc
  exact h c hc
theorem strOk_of (s : String) : PyData.strOk (Str.ofString s) = true := strOk_digits fun c _ => by
  have := c.valid
  have h : c.toNat < 0x110000 := by
    rcases this with z | z
    · have : c.toNat < 0xd800 := z
      omega
    · exact z.2
  exact h
theorem strOk_int (i : Int) : PyData.strOk (toString i : String) = true := strOk_of _
def vStrI : List Rf → VW := look1 fun t Q γ => match t with
  | .int i => i.natAbs.log2 < 1920 ∧ Q (.val (.str (toString i : String))) γ
  | _ => False
instance : VC K B E rStrI vStrI where
  run := fun {as γ σ G H vs rs Q Qv Xv} S r1 h k _ => by
    obtain ⟨v, t, rfl, z, h⟩ := look1_ok S r1 h
    split at h
    · rw [int_any z]
      exact ⟨_, rfl, h.1, kval k S (.str _ (strOk_int _)) h.2⟩
    · exact h.elim
def vFmt (wa : VW) : VW := fun γ Q X => wa γ (fun r γ1 => peek r γ1 fun t => match t with
  | .int i => i.natAbs.log2 < 1920 ∧ Q (.val (.str (toString i : String))) γ1
  | .str y => small y.length ∧ Q (.val (.str y)) γ1
  | _ => False) X
instance {te : TE} {wa : VW} [ha : VE K B E te wa] : VE K B E (tFmt te) (vFmt wa) where
  run := fun {as γ σ G H Q Qv Xv} S h k kx => by
    refine ha.run S h (fun r1 γ1 as1 v1 G1 H1 p1 g1 S1 rr1 q1 => ?_) kx
    obtain ⟨t, q, z⟩ := peek_ok S1 rr1 q1
    have k1 := k.mono p1 g1
    split at q
    · exact .inr ⟨_, int_any z, q.1, kval k1 S1 (.str _ (strOk_int _)) q.2⟩
    · obtain ⟨rfl, o⟩ := str_any z
      exact .inl ⟨_, rfl, q.1, kval k1 S1 (.str _ o) q.2⟩
    · exact q.elim
class VJ (K : PySem.W.Frag) (B : Bs) (E : L2.St → XK) (ts : List TE) (w : outParam (Str → Env → (Str → Env → Prop) → XQ → Prop)) : Prop where
  run : ∀ {as : List Addr} {γ : Env} {σ : L2.St} {G H : Hp} {acc : Str} {Q : Str → Hp → Prop} {Qv : Str → Env → Prop} {Xv : XQ}, StR K B as γ σ G H → PyData.strOk acc = true → w acc γ Qv Xv → KontP K B as σ G (fun _ _ _ a b => a = b ∧ PyData.strOk a = true) Q Qv → KontX K B as σ G (E σ) Xv → tJs ts acc σ H Q
def vJnil : Str → Env → (Str → Env → Prop) → XQ → Prop := fun acc γ Q _ => Q acc γ
def vJcons (wa : VW) (wr : Str → Env → (Str → Env → Prop) → XQ → Prop) : Str → Env → (Str → Env → Prop) → XQ → Prop := fun acc γ Q X => wa γ (fun r γ1 => peek r γ1 fun t => match t with
  | .str y => small (acc ++ y).length ∧ wr (acc ++ y) γ1 Q X
  | _ => False) X
instance : VJ K B E [] vJnil := ⟨fun {as γ σ G H acc Q Qv Xv} S o h k _ => k acc γ as acc G H (List.prefix_refl _) (Same.refl _) S ⟨rfl, o⟩ h⟩
instance {t : TE} {ts : List TE} {wa : VW} {wr : Str → Env → (Str → Env → Prop) → XQ → Prop} [ha : VE K B E t wa] [hr : VJ K B E ts wr] : VJ K B E (t :: ts) (vJcons wa wr) where
  run := fun {as γ σ G H acc Q Qv Xv} S o h k kx => by
    refine ha.run S h (fun r1 γ1 as1 v1 G1 H1 p1 g1 S1 rr1 q1 => ?_) kx
    obtain ⟨t, q, z⟩ := peek_ok S1 rr1 q1
    split at q
    · obtain ⟨rfl, o2⟩ := str_any z
      exact ⟨_, rfl, q.1, hr.run S1 (strOk_app o o2) q.2 (k.mono p1 g1) (kx.mono p1 g1)⟩
    · exact q.elim
def tJoin (ts : List TE) : TE := fun σ H Q => tJs ts Str.empty σ H fun out H1 => Q (.str out) H1
theorem pe_joinedU {X : Cx} {v1 v2 : Expr} {rest : List Expr} {ts : List TE} {pos : Pos} (h : PJ X (v1 :: v2 :: rest) ts) : PE X (.JoinedStr (v1 :: v2 :: rest) pos) (tJoin ts) := pe_joined h
def vJoin (wr : Str → Env → (Str → Env → Prop) → XQ → Prop) : VW := fun γ Q X => wr Str.empty γ (fun out γ1 => Q (.val (.str out)) γ1) X
instance {ts : List TE} {wr : Str → Env → (Str → Env → Prop) → XQ → Prop} [hr : VJ K B E ts wr] : VE K B E (tJoin ts) (vJoin wr) where
  run := fun {as γ σ G H Q Qv Xv} S h k kx => by
    refine hr.run S strOk_empty h (fun out γ1 as1 out' G1 H1 p1 g1 S1 e q1 => ?_) kx
    obtain ⟨rfl, o⟩ := e
    exact kval (k.mono p1 g1) S1 (.str _ o) q1
/-! ### isinstance -/
/-- the class of a value -/
inductive TyR (K : PySem.W.Frag) : T → Value → Prop
  | non : TyR K .non (.type "NoneType")
  | bl (b : Bool) : TyR K (.bl b) (.type "bool")
  | int (i : Int) : TyR K (.int i) (.type "int")
  | str (s : Str) : TyR K (.str s) (.type "str")
  | lst (ts : List T) : TyR K (.lst ts) (.type "list")
  | tup (ts : List T) : TyR K (.tup ts) (.type "tuple")
  | dk (ts : List (Key × T)) : TyR K (.dk ts) (.type "dict")
  | obj {C : Addr} {gs : List (Str × T)} (h : ∀ (H : Hp) (a dx : Addr) (fs : List (Str × V)), H a = some (.ins C dx fs) → TyX K H (.ref a) (.ref C)) : TyR K (.obj C gs) (.ref C)
inductive ClR : T → Value → Prop
  | ty (n : String) : ClR (.ty n) (.type n)
  | cls (a : Addr) : ClR (.cls a) (.ref a)
/-- isinstance(x, c) is b -/
inductive IsI (K : PySem.W.Frag) (x c : T) (b : Bool) : Prop
  | mk (t u : Value) (h1 : TyR K x t) (h2 : ClR c u) (h3 : PySem.W.kitOne K t u = some b) : IsI K x c b
section
variable {H : Hp} {v : V} {t : T} {u : Value}
theorem TyR.ok (h : TyR K t u) (r : Rp K H v t) : TyX K H v u := by
  cases h with
  | non => cases r; exact .base .non
  | bl b => cases r; exact .base (.bl b)
  | int i => cases r; exact .base (.int i)
  | str s => cases r; exact .base (.str s)
  | lst ts => cases r with | lst e _ => exact .base (.lst e)
  | tup ts =>
    cases r with | tup e _ =>
    rcases e with e | ⟨o, its, n, e, c, _⟩
    · exact .base (.tup e)
    · exact .kTuple e c
  | dk ts => cases r with | dk e _ _ => exact .base (.dK e)
  | obj h => cases r with | obj e _ _ => exact h _ _ _ _ e
theorem ClR.ok (h : ClR t u) (r : Rp K H v t) : ClsV v u := by
  cases h with
  | ty n => cases r; exact .ty n
  | cls a => cases r; exact .own a
end
def vIsi : List Rf → VW := look2 fun x c Q γ => ∃ b, isI x c = some b ∧ Q (.val (.bl b)) γ
where isI (x c : T) : Option Bool := none
def vIsiK (K : PySem.W.Frag) : List Rf → VW := look2 fun x c Q γ => ∃ b, IsI K x c b ∧ Q (.val (.bl b)) γ
instance : VC K B E (rIsi K) (vIsiK K) where
  run := fun {as γ σ G H vs rs Q Qv Xv} S r1 h k _ => by
    obtain ⟨v, u, t, s, rfl, z1, z2, h⟩ := look2_ok S r1 h
    obtain ⟨b, ⟨t', u', h1, h2, h3⟩, q⟩ := h
    exact ⟨_, _, _, _, b, rfl, h2.ok (rp_any S z2), h1.ok (rp_any S z1), h3, kval k S (.bl _) q⟩
theorem IsI.b {x : T} {a n : String} {b : Bool} (h : TyR K x (.type a)) (e : kitB a n = some b) : IsI K x (.ty n) b := ⟨_, _, h, .ty n, kit_ty e⟩
theorem IsI.int_int (i : Int) : IsI K (.int i) (.ty "int") true := .b (.int i) (by decide +kernel)
theorem IsI.int_bool (i : Int) : IsI K (.int i) (.ty "bool") false := .b (.int i) (by decide +kernel)
theorem IsI.int_str (i : Int) : IsI K (.int i) (.ty "str") false := .b (.int i) (by decide +kernel)
theorem IsI.int_list (i : Int) : IsI K (.int i) (.ty "list") false := .b (.int i) (by decide +kernel)
theorem IsI.int_tuple (i : Int) : IsI K (.int i) (.ty "tuple") false := .b (.int i) (by decide +kernel)
theorem IsI.bl_int (i : Bool) : IsI K (.bl i) (.ty "int") true := .b (.bl i) (by decide +kernel)
theorem IsI.bl_bool (i : Bool) : IsI K (.bl i) (.ty "bool") true := .b (.bl i) (by decide +kernel)
theorem IsI.bl_str (i : Bool) : IsI K (.bl i) (.ty "str") false := .b (.bl i) (by decide +kernel)
theorem IsI.str_str (i : Str) : IsI K (.str i) (.ty "str") true := .b (.str i) (by decide +kernel)
theorem IsI.str_int (i : Str) : IsI K (.str i) (.ty "int") false := .b (.str i) (by decide +kernel)
theorem IsI.str_bool (i : Str) : IsI K (.str i) (.ty "bool") false := .b (.str i) (by decide +kernel)
theorem IsI.lst_list (i : List T) : IsI K (.lst i) (.ty "list") true := .b (.lst i) (by decide +kernel)
theorem IsI.lst_tuple (i : List T) : IsI K (.lst i) (.ty "tuple") false := .b (.lst i) (by decide +kernel)
theorem IsI.tup_list (i : List T) : IsI K (.tup i) (.ty "list") false := .b (.tup i) (by decide +kernel)
theorem IsI.tup_tuple (i : List T) : IsI K (.tup i) (.ty "tuple") true := .b (.tup i) (by decide +kernel)
theorem IsI.tup_str (i : List T) : IsI K (.tup i) (.ty "str") false := .b (.tup i) (by decide +kernel)
theorem IsI.tup_int (i : List T) : IsI K (.tup i) (.ty "int") false := .b (.tup i) (by decide +kernel)
theorem IsI.non_int : IsI K .non (.ty "int") false := .b .non (by decide +kernel)
theorem IsI.non_tuple : IsI K .non (.ty "tuple") false := .b .non (by decide +kernel)
theorem IsI.non_list : IsI K .non (.ty "list") false := .b .non (by decide +kernel)
theorem IsI.non_str : IsI K .non (.ty "str") false := .b .non (by decide +kernel)
theorem IsI.dk_dict (i : List (Key × T)) : IsI K (.dk i) (.ty "dict") true := .b (.dk i) (by decide +kernel)
/-- of an instance: by what the classes say -/
theorem IsI.obj {C : Addr} {gs : List (Str × T)} {c : T} {u : Value} {b : Bool} (h : ∀ (H : Hp) (a dx : Addr) (fs : List (Str × V)), H a = some (.ins C dx fs) → TyX K H (.ref a) (.ref C)) (k : ClR c u) (e : PySem.W.kitOne K (.ref C) u = some b) : IsI K (.obj C gs) c b := ⟨_, _, .obj h, k, e⟩
/-- isinstance(x, (c1, c2, ..)) -/
inductive IsIs (K : PySem.W.Frag) (x : T) : List T → Bool → Prop
  | nil (t : Value) (h : TyR K x t) : IsIs K x [] false
  | yes {c : T} {cs : List T} (h : IsI K x c true) (k : ∃ us, Paired ClR cs us) : IsIs K x (c :: cs) true
  | no {c : T} {cs : List T} {b : Bool} (h : IsI K x c false) (k : IsIs K x cs b) : IsIs K x (c :: cs) b
/-! ### fields -/
def vFld (K : PySem.W.Frag) (f : Str) (wa : VW) : VW := fun γ Q X => wa γ (fun r γ1 => peek r γ1 fun t => match t with
  | .obj C gs => (Cls K C ∧ NoAttr K C f) ∧ isS (gs.lookup f) fun t => Q (.val t) γ1
  | _ => False) X
theorem lookup_rp {G : Hp} {f : Str} {t : T} : ∀ {fs : List (Str × V)} {gs : List (Str × T)}, RpF K G fs gs → gs.lookup f = some t → ∃ v, fs.lookup f = some v ∧ Rp K G v t
  | fs, [], _, e => by cases e
  | [], g :: gs, h, e => by have := h.1; cases this
  | (n, v) :: fs, (m, u) :: gs, h, e => by
    have h1 := h.1
    simp only [List.map_cons, List.cons.injEq] at h1
    obtain ⟨rfl, h1⟩ := h1
    have h2 := h.2
    cases h2 with | cons a b =>
    unfold List.lookup at e ⊢
    cases hb : f == n with
    | true => rw [hb] at e; cases e; exact ⟨v, rfl, a⟩
    | false => rw [hb] at e; exact lookup_rp ⟨h1, b⟩ e
instance {f : Str} {ta : TE} {wa : VW} [ha : VE K B E ta wa] : VE K B E (tFld K ta f) (vFld K f wa) where
  run := fun {as γ σ G H Q Qv Xv} S h k kx => by
    refine ha.run S h (fun r1 γ1 as1 v1 G1 H1 p1 g1 S1 rr1 q1 => ?_) kx
    obtain ⟨t, q, z⟩ := peek_ok S1 rr1 q1
    split at q
    · obtain ⟨⟨c1, c2⟩, q⟩ := q
      obtain ⟨t, e, q⟩ := isS_e q
      rcases z with z | ⟨a, rfl, dx, fs, z1, z2⟩
      · cases z with | obj z1 z2 z3 =>
        obtain ⟨v, ev, rv⟩ := lookup_rp ⟨z2, z3⟩ e
        exact ⟨_, _, _, _, v, rfl, S1.vw _ _ z1, c1, c2, ev, kval (k.mono p1 g1) S1 rv q⟩
      · obtain ⟨v, ev, rv⟩ := lookup_rp z2 e
        exact ⟨_, _, _, _, v, rfl, z1, c1, c2, ev, kval (k.mono p1 g1) S1 rv q⟩
    · exact q.elim
/-! ### tests -/
/-- by a bool -/
def br (c : Bool) (P Q : Prop) : Prop := match c with
  | true => P
  | false => Q
theorem br_i {c : Bool} {P Q : Prop} (h1 : c = true → P) (h2 : c = false → Q) : br c P Q := by
  cases c
  · exact h2 rfl
  · exact h1 rfl
theorem br_e {c : Bool} {P Q : Prop} (h : br c P Q) : if c = true then P else Q := by
  cases c <;> exact h
def vTest (we : VW) : Env → (Bool → Env → Prop) → XQ → Prop := fun γ Q X => we γ (fun r γ1 => peek r γ1 fun t => match t with
  | .bl b => Q b γ1
  | _ => False) X
section
variable {te : TE} {we : VW} [he : VE K B E te we]
theorem vtest_run {as : List Addr} {γ : Env} {σ : L2.St} {G H : Hp} {Q : Bool → Hp → Prop} {Qv : Bool → Env → Prop} {Xv : XQ} (S : StR K B as γ σ G H) (h : vTest we γ Qv Xv) (k : KontP K B as σ G rB Q Qv) (kx : KontX K B as σ G (E σ) Xv) : te σ H fun x H' => ∃ b, x = .bl b ∧ Q b H' := by
  refine he.run S h (fun r1 γ1 as1 v1 G1 H1 p1 g1 S1 rr1 q1 => ?_) kx
  obtain ⟨t, q, z⟩ := peek_ok S1 rr1 q1
  split at q
  · exact ⟨_, bl_any z, k _ _ _ _ _ _ p1 g1 S1 rfl q⟩
  · exact q.elim
instance : VT K B E (tTest te) (vTest we) := ⟨fun S h k kx => vtest_run S h k kx⟩
instance : VT K B E (tB te) (vTest we) := ⟨fun S h k kx => vtest_run S h k kx⟩
end
/-- the value's truth -/
def truQ (t : T) (Q : Bool → Prop) : Prop :=
  match t with
  | .bl b => Q b
  | .non => Q false
  | .int i => Q (i != 0)
  | .str y => small y.length ∧ Q ((y.length : Int) != 0)
  | .lst ts => Q (!ts.isEmpty)
  | .tup ts => Q (!ts.isEmpty)
  | .scr ts => Q (!ts.isEmpty)
  | .dk ks => Q (!ks.isEmpty)
  | _ => False
def tTru (K : PySem.W.Frag) (ta : TE) : TT := fun σ H Q => ta σ H fun x H' => ∃ k, TruV K x H' k ∧ Q k H'
theorem pt_tru {X : Cx} {a : Expr} {ta : TE} (ha : PE X a ta) (he : ∀ whole, isTrue a X.env whole = (do let v ← whole; standAt a.pos; holding [v] (truthy v))) : PT X a (tTru X.K ta) := pt_truth ha he
theorem RpAll.emp {G : Hp} {vs : List V} {ts : List T} (h : RpAll K G vs ts) : vs.isEmpty = ts.isEmpty := by cases h <;> rfl
theorem tru_rp {H : Hp} {v : V} {t : T} {Q : Bool → Prop} (h : truQ t Q) (r : Rp K H v t) : ∃ k, TruV K v H k ∧ Q k := by
  cases r with
  | non => exact ⟨_, rfl, h⟩
  | bl b => exact ⟨_, rfl, h⟩
  | int i => exact ⟨_, rfl, h⟩
  | str s o => exact ⟨_, ⟨h.1, rfl⟩, h.2⟩
  | lst e a => exact ⟨_, .inl ⟨_, SqL.of e, rfl⟩, by rw [a.emp]; exact h⟩
  | scr e a => exact ⟨_, .inl ⟨_, e, rfl⟩, by rw [a.emp]; exact h⟩
  | tup e a => exact ⟨_, .inr (.inl ⟨_, e.t, rfl⟩), by rw [a.emp]; exact h⟩
  | @dk a kvs ks e e2 a2 =>
    refine ⟨_, .inr (.inr ⟨_, e, rfl⟩), ?_⟩
    have : kvs.isEmpty = ks.isEmpty := by
      have := congrArg List.isEmpty e2
      simpa using this
    rw [this]
    exact h
  | _ => exact h.elim
def vTru (we : VW) : Env → (Bool → Env → Prop) → XQ → Prop := fun γ Q X => we γ (fun r γ1 => peek r γ1 fun t => truQ t fun b => Q b γ1) X
instance {te : TE} {we : VW} [he : VE K B E te we] : VT K B E (tTru K te) (vTru we) where
  run := fun {as γ σ G H Q Qv Xv} S h k kx => by
    refine he.run S h (fun r1 γ1 as1 v1 G1 H1 p1 g1 S1 rr1 q1 => ?_) kx
    obtain ⟨t, q, z⟩ := peek_rp S1 rr1 q1
    obtain ⟨b, h1, h2⟩ := tru_rp q z
    exact ⟨b, h1, k _ _ _ _ _ _ p1 g1 S1 rfl h2⟩
/-- and, or: in one (d told), or way by way -/
def vAnd (wt wu : Env → (Bool → Env → Prop) → XQ → Prop) : Env → (Bool → Env → Prop) → XQ → Prop := fun γ Q X => wt γ (fun c γ1 => (∃ d : Bool, (c = true → wu γ1 (fun b γ2 => b = d ∧ γ2 = γ1) X) ∧ Q (c && d) γ1) ∨ br c (wu γ1 Q X) (Q false γ1)) X
def vOr (wt wu : Env → (Bool → Env → Prop) → XQ → Prop) : Env → (Bool → Env → Prop) → XQ → Prop := fun γ Q X => wt γ (fun c γ1 => (∃ d : Bool, (c = false → wu γ1 (fun b γ2 => b = d ∧ γ2 = γ1) X) ∧ Q (c || d) γ1) ∨ br c (Q true γ1) (wu γ1 Q X)) X
def vNot (wt : Env → (Bool → Env → Prop) → XQ → Prop) : Env → (Bool → Env → Prop) → XQ → Prop := fun γ Q X => wt γ (fun c γ1 => Q (!c) γ1) X
section
variable {t u : TT} {wt wu : Env → (Bool → Env → Prop) → XQ → Prop} [ht : VT K B E t wt] [hu : VT K B E u wu]
instance : VT K B E (tAnd t u) (vAnd wt wu) where
  run := fun {as γ σ G H Q Qv Xv} S h k kx => by
    refine ht.run S h (fun b γ1 as1 b' G1 H1 p1 g1 S1 e q1 => ?_) kx
    cases e
    have k1 := k.mono p1 g1
    have kx1 := kx.mono p1 g1
    rcases q1 with ⟨d, q1, q2⟩ | q1
    · cases b
      · exact k1 _ _ _ _ _ _ (List.prefix_refl _) (Same.refl _) S1 rfl q2
      · refine hu.run S1 (q1 rfl) (fun b γ2 as2 b' G2 H2 p2 g2 S2 e q => ?_) kx1
        cases e
        obtain ⟨rfl, rfl⟩ := q
        exact k1 _ _ _ _ _ _ p2 g2 S2 rfl q2
    · cases b
      · exact k1 _ _ _ _ _ _ (List.prefix_refl _) (Same.refl _) S1 rfl q1
      · exact hu.run S1 q1 k1 kx1
instance : VT K B E (tOr t u) (vOr wt wu) where
  run := fun {as γ σ G H Q Qv Xv} S h k kx => by
    refine ht.run S h (fun b γ1 as1 b' G1 H1 p1 g1 S1 e q1 => ?_) kx
    cases e
    have k1 := k.mono p1 g1
    have kx1 := kx.mono p1 g1
    rcases q1 with ⟨d, q1, q2⟩ | q1
    · cases b
      · refine hu.run S1 (q1 rfl) (fun b γ2 as2 b' G2 H2 p2 g2 S2 e q => ?_) kx1
        cases e
        obtain ⟨rfl, rfl⟩ := q
        exact k1 _ _ _ _ _ _ p2 g2 S2 rfl q2
      · exact k1 _ _ _ _ _ _ (List.prefix_refl _) (Same.refl _) S1 rfl q2
    · cases b
      · exact hu.run S1 q1 k1 kx1
      · exact k1 _ _ _ _ _ _ (List.prefix_refl _) (Same.refl _) S1 rfl q1
instance : VT K B E (tNot t) (vNot wt) where
  run := fun {as γ σ G H Q Qv Xv} S h k kx => by
    refine ht.run S h (fun b γ1 as1 b' G1 H1 p1 g1 S1 e q1 => ?_) kx
    cases e
    exact k _ _ _ _ _ _ p1 g1 S1 rfl q1
end
/-- as values -/
def vAndV (wa wb : VW) : VW := fun γ Q X => wa γ (fun r γ1 => peek r γ1 fun t => match t with
  | .bl c => br c (wb γ1 Q X) (Q (.val (.bl false)) γ1)
  | _ => False) X
def vOrV (wa wb : VW) : VW := fun γ Q X => wa γ (fun r γ1 => peek r γ1 fun t => match t with
  | .bl c => br c (Q (.val (.bl true)) γ1) (wb γ1 Q X)
  | _ => False) X
def vNotV (wa : VW) : VW := fun γ Q X => wa γ (fun r γ1 => peek r γ1 fun t => match t with
  | .bl c => Q (.val (.bl (!c))) γ1
  | _ => False) X
def vNotT (wa : VW) : VW := fun γ Q X => wa γ (fun r γ1 => peek r γ1 fun t => truQ t fun c => Q (.val (.bl (!c))) γ1) X
def vIfE (wt : Env → (Bool → Env → Prop) → XQ → Prop) (wa wb : VW) : VW := fun γ Q X => wt γ (fun c γ1 => br c (wa γ1 Q X) (wb γ1 Q X)) X
section
variable {ta tb : TE} {wa wb : VW} [ha : VE K B E ta wa] [hb : VE K B E tb wb]
instance : VE K B E (tAndV ta tb) (vAndV wa wb) where
  run := fun {as γ σ G H Q Qv Xv} S h k kx => by
    refine ha.run S h (fun r1 γ1 as1 v1 G1 H1 p1 g1 S1 rr1 q1 => ?_) kx
    obtain ⟨t, q, z⟩ := peek_ok S1 rr1 q1
    split at q
    · rename_i c
      refine ⟨c, bl_any z, ?_⟩
      cases c
      · exact kval (k.mono p1 g1) S1 (.bl _) q
      · exact hb.run S1 q (k.mono p1 g1) (kx.mono p1 g1)
    · exact q.elim
instance : VE K B E (tOrV ta tb) (vOrV wa wb) where
  run := fun {as γ σ G H Q Qv Xv} S h k kx => by
    refine ha.run S h (fun r1 γ1 as1 v1 G1 H1 p1 g1 S1 rr1 q1 => ?_) kx
    obtain ⟨t, q, z⟩ := peek_ok S1 rr1 q1
    split at q
    · rename_i c
      refine ⟨c, bl_any z, ?_⟩
      cases c
      · exact hb.run S1 q (k.mono p1 g1) (kx.mono p1 g1)
      · exact kval (k.mono p1 g1) S1 (.bl _) q
    · exact q.elim
instance : VE K B E (tNotV ta) (vNotV wa) where
  run := fun {as γ σ G H Q Qv Xv} S h k kx => by
    refine ha.run S h (fun r1 γ1 as1 v1 G1 H1 p1 g1 S1 rr1 q1 => ?_) kx
    obtain ⟨t, q, z⟩ := peek_ok S1 rr1 q1
    split at q
    · exact ⟨_, bl_any z, kval (k.mono p1 g1) S1 (.bl _) q⟩
    · exact q.elim
instance : VE K B E (tNotT K ta) (vNotT wa) where
  run := fun {as γ σ G H Q Qv Xv} S h k kx => by
    refine ha.run S h (fun r1 γ1 as1 v1 G1 H1 p1 g1 S1 rr1 q1 => ?_) kx
    obtain ⟨t, q, z⟩ := peek_rp S1 rr1 q1
    obtain ⟨b, h1, h2⟩ := tru_rp q z
    exact ⟨b, h1, kval (k.mono p1 g1) S1 (.bl _) h2⟩
instance {tc : TT} {wc : Env → (Bool → Env → Prop) → XQ → Prop} [hc : VT K B E tc wc] : VE K B E (tIf tc ta tb) (vIfE wc wa wb) where
  run := fun {as γ σ G H Q Qv Xv} S h k kx => by
    refine hc.run S h (fun b γ1 as1 b' G1 H1 p1 g1 S1 e q1 => ?_) kx
    cases e
    cases b
    · exact hb.run S1 q1 (k.mono p1 g1) (kx.mono p1 g1)
    · exact ha.run S1 q1 (k.mono p1 g1) (kx.mono p1 g1)
/-- a op1 b op2 c -/
def vChain (wr wr' : Rf → Rf → VW) (wa wb wc : VW) : VW := fun γ Q X => wa γ (fun r1 γ1 => wb γ1 (fun r2 γ2 => wr r1 r2 γ2 (fun r3 γ3 => peek r3 γ3 fun t => match t with
  | .bl c => br c (wc γ3 (fun r4 γ4 => wr' r2 r4 γ4 Q X) X) (Q (.val (.bl false)) γ3)
  | _ => False) X) X) X
instance {r r' : R2} {wr wr' : Rf → Rf → VW} {tc : TE} {wc : VW} [hc : VE K B E tc wc] [hr : V2 K B E r wr] [hr' : V2 K B E r' wr'] : VE K B E (tChain r r' ta tb tc) (vChain wr wr' wa wb wc) where
  run := fun {as γ σ G H Q Qv Xv} S h k kx => by
    refine ha.run S h (fun r1 γ1 as1 v1 G1 H1 p1 g1 S1 rr1 q1 => ?_) kx
    refine hb.run S1 q1 (fun r2 γ2 as2 v2 G2 H2 p2 g2 S2 rr2 q2 => ?_) (kx.mono p1 g1)
    refine hr.run S2 (RR.mono rr1 p2 g2) rr2 q2 (fun r3 γ3 as3 v3 G3 H3 p3 g3 S3 rr3 q3 => ?_) ((kx.mono p1 g1).mono p2 g2)
    have k3 := ((k.mono p1 g1).mono p2 g2).mono p3 g3
    have kx3 := ((kx.mono p1 g1).mono p2 g2).mono p3 g3
    obtain ⟨t, q, z⟩ := peek_ok S3 rr3 q3
    split at q
    · rename_i c
      refine ⟨c, bl_any z, ?_⟩
      cases c
      · exact kval k3 S3 (.bl _) q
      · refine hc.run S3 q (fun r4 γ4 as4 v4 G4 H4 p4 g4 S4 rr4 q4 => ?_) kx3
        exact hr'.run S4 (RR.mono rr2 (p3.trans p4) (g3.trans g4)) rr4 q4 (k3.mono p4 g4) (kx3.mono p4 g4)
    · exact q.elim
end
/-- x is None, is True, is False .. -/
def rIsC (neg : Bool) (c : V) : R2 := fun x y H Q => y = c ∧ Q (.bl (nb neg (decide (x = c)))) H
end
end VL
set_option Elab.async false
set_option linter.all false
set_option maxRecDepth 100000
set_option maxHeartbeats 4000000
/-! readings over values: statements, methods of lists, loops, comprehensions -/
namespace VL
open PySem PySem.Spec PyProof.Rows L2 XR
structure VEnds where
  nx : Env → Prop
  rt : RQ
  bk : Env → Prop
  ct : Env → Prop
  ex : XQ
abbrev VSW := Env → VEnds → Prop
def KontS (K : PySem.W.Frag) (B : Bs) (as : List Addr) (G : Hp) (Q : L2.St → Hp → Prop) (Qv : Env → Prop) : Prop :=
  ∀ (γ' : Env) (as' : List Addr) (σ' : L2.St) (G' H' : Hp), as <+: as' → Same G G' → StR K B as' γ' σ' G' H' → Qv γ' → Q σ' H'
structure KontD (K : PySem.W.Frag) (B : Bs) (E : L2.St → XK) (as : List Addr) (G : Hp) (D : Ends) (Dv : VEnds) : Prop where
  nx : KontS K B as G D.nx Dv.nx
  bk : KontS K B as G D.bk Dv.bk
  ct : KontS K B as G D.ct Dv.ct
  rt : ∀ (σ' : L2.St), KontP K B as σ' G (rR K B) D.rt Dv.rt
  ex : ∀ (σ' : L2.St), KontX K B as σ' G (E σ') Dv.ex
theorem KontS.mono {K : PySem.W.Frag} {B : Bs} {as as1 : List Addr} {G G1 : Hp} {Q : L2.St → Hp → Prop} {Qv : Env → Prop} (k : KontS K B as G Q Qv) (p : as <+: as1) (g : Same G G1) : KontS K B as1 G1 Q Qv :=
  fun γ' as' σ' G' H' p' g' S q => k γ' as' σ' G' H' (p.trans p') (g.trans g') S q
theorem KontD.mono {K : PySem.W.Frag} {B : Bs} {E : L2.St → XK} {as as1 : List Addr} {G G1 : Hp} {D : Ends} {Dv : VEnds} (k : KontD K B E as G D Dv) (p : as <+: as1) (g : Same G G1) : KontD K B E as1 G1 D Dv :=
  ⟨k.nx.mono p g, k.bk.mono p g, k.ct.mono p g, fun σ => (k.rt σ).mono p g, fun σ => (k.ex σ).mono p g⟩
class VS (K : PySem.W.Frag) (B : Bs) (E : L2.St → XK) (t : TS) (w : outParam VSW) : Prop where
  run : ∀ {as : List Addr} {γ : Env} {σ : L2.St} {G H : Hp} {D : Ends} {Dv : VEnds}, StR K B as γ σ G H → w γ Dv → KontD K B E as G D Dv → t D σ H
/-- a target: the value is stored; is: the slots that it sets -/
class VG (K : PySem.W.Frag) (B : Bs) (E : L2.St → XK) (g : TG) (w : outParam (Rf → Env → (Env → Prop) → XQ → Prop)) (is : outParam (List Nat)) : Prop where
  run : ∀ {as : List Addr} {γ : Env} {σ : L2.St} {G H : Hp} {x : V} {r : Rf} {Q : L2.St → Hp → Prop} {Qv : Env → Prop} {Xv : XQ}, StR K B as γ σ G H → RR K B.ex as G r x → w r γ Qv Xv →
    (∀ (γ' : Env) (as' : List Addr) (σ' : L2.St) (G' H' : Hp), as <+: as' → Same G G' → StR K B as' γ' σ' G' H' → (∀ vs : List Nat, (∀ i ∈ is, i ∈ vs) → wipe σ' vs = wipe σ vs) → Qv γ' → Q σ' H') → KontX K B as σ G (E σ) Xv → g x σ H Q
class VGs (K : PySem.W.Frag) (B : Bs) (E : L2.St → XK) (g : TGs) (w : outParam (List Rf → Env → (Env → Prop) → XQ → Prop)) (is : outParam (List Nat)) : Prop where
  run : ∀ {as : List Addr} {γ : Env} {σ : L2.St} {G H : Hp} {xs : List V} {rs : List Rf} {Q : L2.St → Hp → Prop} {Qv : Env → Prop} {Xv : XQ}, StR K B as γ σ G H → RRs K B.ex as G rs xs → w rs γ Qv Xv →
    (∀ (γ' : Env) (as' : List Addr) (σ' : L2.St) (G' H' : Hp), as <+: as' → Same G G' → StR K B as' γ' σ' G' H' → (∀ vs : List Nat, (∀ i ∈ is, i ∈ vs) → wipe σ' vs = wipe σ vs) → Qv γ' → Q σ' H') → (∀ σ', KontX K B as σ' G (E σ') Xv) → g xs σ H Q
theorem wipe_set {σ : L2.St} {i : Nat} {x : Option V} : ∀ {vs : List Nat}, i ∈ vs → wipe (σ.set i x) vs = wipe σ vs := by
  intro vs
  induction vs with
  | nil => intro h; cases h
  | cons v vs ih =>
    intro h
    show (wipe (σ.set i x) vs).set v none = (wipe σ vs).set v none
    by_cases e : i ∈ vs
    · rw [ih e]
    · have hv : i = v := by
        rcases List.mem_cons.mp h with z | z
        · exact z
        · exact absurd z e
      subst hv
      apply List.ext_getElem?
      intro j
      by_cases hj : j = i
      · subst hj
        by_cases hl : j < σ.length
        · rw [List.getElem?_set_self (by rw [wipe_length, List.length_set]; exact hl), List.getElem?_set_self (by rw [wipe_length]; exact hl)]
        · rw [List.getElem?_eq_none (by rw [List.length_set, wipe_length, List.length_set]; omega), List.getElem?_eq_none (by rw [List.length_set, wipe_length]; omega)]
      · rw [List.getElem?_set_ne (Ne.symm hj), List.getElem?_set_ne (Ne.symm hj)]
        by_cases hm : j ∈ vs
        · have aux : ∀ (τ : L2.St), (wipe τ vs)[j]? = if j < τ.length then some none else none := fun τ => by
            clear ih h e
            induction vs with
            | nil => cases hm
            | cons w ws ih2 =>
              show ((wipe τ ws).set w none)[j]? = _
              by_cases hw : j = w
              · subst hw
                by_cases hl : j < τ.length
                · rw [List.getElem?_set_self (by rw [wipe_length]; exact hl), if_pos hl]
                · rw [List.getElem?_eq_none (by rw [List.length_set, wipe_length]; omega), if_neg hl]
              · rw [List.getElem?_set_ne (Ne.symm hw)]
                rcases List.mem_cons.mp hm with z | z
                · exact absurd z hw
                · exact ih2 z
          rw [aux, aux, List.length_set]
        · rw [wipe_out hm, wipe_out hm, List.getElem?_set_ne (Ne.symm hj)]
section
variable {K : PySem.W.Frag} {B : Bs} {E : L2.St → XK}
/-! ### targets -/
def vgName (i : Nat) : Rf → Env → (Env → Prop) → XQ → Prop := fun r γ Q _ => Q (γ.set i r)
instance {i : Nat} : VG K B E (gName i) (vgName i) [i] where
  run := fun {as γ σ G H x r Q Qv Xv} S rr h k _ => k _ _ _ G H (List.prefix_refl _) (Same.refl _) (S.store rr i) (fun vs hv => wipe_set (hv i List.mem_cons_self)) h
def vgNil : List Rf → Env → (Env → Prop) → XQ → Prop := fun rs γ Q _ => match rs with
  | [] => Q γ
  | _ => False
def vgCons (wg : Rf → Env → (Env → Prop) → XQ → Prop) (wr : List Rf → Env → (Env → Prop) → XQ → Prop) : List Rf → Env → (Env → Prop) → XQ → Prop := fun rs γ Q X => match rs with
  | r :: rs => wg r γ (fun γ1 => wr rs γ1 Q X) X
  | _ => False
instance : VGs K B E gNil vgNil [] where
  run := fun {as γ σ G H xs rs Q Qv Xv} S rr h k _ => by
    unfold vgNil at h
    split at h
    · cases rr; exact ⟨rfl, k _ _ _ _ _ (List.prefix_refl _) (Same.refl _) S (fun _ _ => rfl) h⟩
    · exact h.elim
instance {g : TG} {u : TGs} {wg : Rf → Env → (Env → Prop) → XQ → Prop} {wr : List Rf → Env → (Env → Prop) → XQ → Prop} {is js : List Nat} [hg : VG K B E g wg is] [hr : VGs K B E u wr js] : VGs K B E (gCons g u) (vgCons wg wr) (is ++ js) where
  run := fun {as γ σ G H xs rs Q Qv Xv} S rr h k kx => by
    unfold vgCons at h
    split at h
    · cases rr with | cons a b =>
      refine ⟨_, _, rfl, hg.run S a h (fun γ1 as1 σ1 G1 H1 p1 g1 S1 w1 q1 => ?_) (kx σ)⟩
      refine hr.run S1 (RRs.mono p1 g1 b) q1 (fun γ2 as2 σ2 G2 H2 p2 g2 S2 w2 q2 => ?_) fun σ' => (kx σ').mono p1 g1
      exact k _ _ _ _ _ (p1.trans p2) (g1.trans g2) S2 (fun vs hv => (w2 vs fun i hi => hv i (List.mem_append_right _ hi)).trans (w1 vs fun i hi => hv i (List.mem_append_left _ hi))) q2
    · exact h.elim
/-- (a, b, ..) = a tuple -/
def vgTup (n : Nat) (wr : List Rf → Env → (Env → Prop) → XQ → Prop) : Rf → Env → (Env → Prop) → XQ → Prop := fun r γ Q X => peek r γ fun t => match t with
  | .tup ts => ts.length = n ∧ wr (ts.map Rf.val) γ Q X
  | _ => False
theorem RpAll.rrs {G : Hp} {as : List Addr} {ex : Addr × Value × Option Addr} : ∀ {vs : List V} {ts : List T}, RpAll K G vs ts → RRs K ex as G (ts.map Rf.val) vs
  | _, _, .nil => .nil
  | _, _, .cons a b => .cons a (RpAll.rrs b)
class VGT (K : PySem.W.Frag) (B : Bs) (E : L2.St → XK) (g : TGs) (w : outParam (List Rf → Env → (Env → Prop) → XQ → Prop)) (is : outParam (List Nat)) : Prop where
  run : ∀ {as : List Addr} {γ : Env} {σ : L2.St} {G H : Hp} {xs : List V} {rs : List Rf} {Q : L2.St → Hp → Prop} {Qv : Env → Prop} {Xv : XQ}, StR K B as γ σ G H → RRs K B.ex as G rs xs → w rs γ Qv Xv →
    (∀ (γ' : Env) (as' : List Addr) (σ' : L2.St) (G' H' : Hp), as <+: as' → Same G G' → StR K B as' γ' σ' G' H' → (∀ vs : List Nat, (∀ i ∈ is, i ∈ vs) → wipe σ' vs = wipe σ vs) → Qv γ' → Q σ' H') → g xs σ H Q
instance : VGT K B E gNil vgNil [] where
  run := fun {as γ σ G H xs rs Q Qv Xv} S rr h k => by
    unfold vgNil at h
    split at h
    · cases rr; exact ⟨rfl, k _ _ _ _ _ (List.prefix_refl _) (Same.refl _) S (fun _ _ => rfl) h⟩
    · exact h.elim
instance {i : Nat} {u : TGs} {wr : List Rf → Env → (Env → Prop) → XQ → Prop} {js : List Nat} [hr : VGT K B E u wr js] : VGT K B E (gCons (gName i) u) (vgCons (vgName i) wr) (i :: js) where
  run := fun {as γ σ G H xs rs Q Qv Xv} S rr h k => by
    unfold vgCons at h
    split at h
    · cases rr with | cons a b =>
      refine ⟨_, _, rfl, ?_⟩
      refine hr.run (S.store a i) b h (fun γ2 as2 σ2 G2 H2 p2 g2 S2 w2 q2 => ?_)
      exact k _ _ _ _ _ p2 g2 S2 (fun vs hv => (w2 vs fun i hi => hv i (List.mem_cons_of_mem _ hi)).trans (wipe_set (hv i List.mem_cons_self))) q2
    · exact h.elim
instance {n : Nat} {u : TGs} {wr : List Rf → Env → (Env → Prop) → XQ → Prop} {is : List Nat} [hr : VGT K B E u wr is] : VG K B E (gTup K n u) (vgTup n wr) is where
  run := fun {as γ σ G H x r Q Qv Xv} S rr h k _ => by
    obtain ⟨t, q, z⟩ := peek_ok S rr h
    split at q
    · obtain ⟨a, xs, rfl, sq, rp⟩ := tup_any z
      exact ⟨a, xs, rfl, SqT.same sq.t S.vw, rp.length.trans q.1, hr.run S rp.rrs q.2 k⟩
    · exact q.elim
/-- o[i] = .., of an open list -/
def setQ (ro : Rf) (n : Int) (t : T) (γ : Env) (Q : Env → Prop) : Prop :=
  match ro with
  | .ref k => match nth γ.mem k with
    | some (.mu (.lst ts)) => isS (setL ts n t) fun us => Q (γ.put k (.mu (.lst us)))
    | _ => False
  | _ => False
def vgSub (wo wi : VW) : Rf → Env → (Env → Prop) → XQ → Prop := fun r γ Q X => wo γ (fun ro γ1 => wi γ1 (fun ri γ2 => peek ri γ2 fun ti => match ti with
  | .int n => toT r γ2 fun t γ3 => setQ ro n t γ3 Q
  | _ => False) X) X
instance {to ti : TE} {wo wi : VW} [ho : VE K B E to wo] [hi : VE K B E ti wi] : VG K B E (gSub to ti rSetL) (vgSub wo wi) [] where
  run := fun {as γ σ G H x r Q Qv Xv} S rr h k kx => by
    refine ho.run S h (fun r1 γ1 as1 v1 G1 H1 p1 g1 S1 rr1 q1 => ?_) kx
    refine hi.run S1 q1 (fun r2 γ2 as2 v2 G2 H2 p2 g2 S2 rr2 q2 => ?_) (kx.mono p1 g1)
    obtain ⟨t, q, z⟩ := peek_ok S2 rr2 q2
    split at q
    · have ei := int_any z
      obtain ⟨t, γ3, G3, g3, S3, rp, q⟩ := toT_ok S2 (RR.mono rr (p1.trans p2) (g1.trans g2)) q
      have rr3 := RR.mono rr1 p2 (g2.trans g3)
      unfold setQ at q
      split at q
      · rename_i kk
        obtain ⟨a, ea, e3⟩ := rr3
        simp only [nth_eq] at q
        split at q
        · rename_i ts e
          obtain ⟨us, e0, q⟩ := isS_e q
          obtain ⟨j, hj, rfl⟩ := setL_ix e0
          obtain ⟨_, acc, hacc, rpa⟩ := S3.mem _ a _ ea e
          refine ⟨a, acc, _, j, e3, ei, hacc, by rw [rpa.length]; exact hj, ?_⟩
          have S4 := S3.write (o := .lst (acc.set j x)) (t := .lst (ts.set j t)) e ea ⟨_, upd_same, rpa.set rp j⟩
          exact k _ _ _ _ _ (p1.trans p2) ((g1.trans g2).trans g3) S4 (fun _ _ => rfl) q
        · exact q.elim
      · exact q.elim
    · exact q.elim
/-! ### statements -/
def vSeq (wt wu : VSW) : VSW := fun γ D => wt γ { D with nx := fun γ1 => wu γ1 D }
instance {t u : TS} {wt wu : VSW} [ht : VS K B E t wt] [hu : VS K B E u wu] : VS K B E (tSeq t u) (vSeq wt wu) where
  run := fun {as γ σ G H D Dv} S h k => ht.run S h ⟨fun γ1 as1 σ1 G1 H1 p1 g1 S1 q1 => hu.run S1 q1 (k.mono p1 g1), k.bk, k.ct, k.rt, k.ex⟩
def vNext : VSW := fun γ D => D.nx γ
def vBreak : VSW := fun γ D => D.bk γ
def vCont : VSW := fun γ D => D.ct γ
instance : VS K B E tNext vNext := ⟨fun S h k => k.nx _ _ _ _ _ (List.prefix_refl _) (Same.refl _) S h⟩
instance : VS K B E tBreak vBreak := ⟨fun S h k => k.bk _ _ _ _ _ (List.prefix_refl _) (Same.refl _) S h⟩
instance : VS K B E tCont vCont := ⟨fun S h k => k.ct _ _ _ _ _ (List.prefix_refl _) (Same.refl _) S h⟩
def vDrop (we : VW) : VSW := fun γ D => we γ (fun _ γ1 => D.nx γ1) D.ex
def vRet (we : VW) : VSW := fun γ D => we γ D.rt D.ex
def vRetN : VSW := fun γ D => D.rt (.val .non) γ
def vAsg (we : VW) (wg : Rf → Env → (Env → Prop) → XQ → Prop) : VSW := fun γ D => we γ (fun r γ1 => wg r γ1 D.nx D.ex) D.ex
section
variable {te : TE} {we : VW} [he : VE K B E te we]
instance : VS K B E (tDrop te) (vDrop we) where
  run := fun {as γ σ G H D Dv} S h k => he.run S h (fun r γ1 as1 v G1 H1 p1 g1 S1 _ q1 => k.nx _ _ _ _ _ p1 g1 S1 q1) (k.ex σ)
instance : VS K B E (tRet te) (vRet we) where
  run := fun {as γ σ G H D Dv} S h k => he.run S h (k.rt σ) (k.ex σ)
instance : VS K B E tRetN vRetN where
  run := fun {as γ σ G H D Dv} S h k => k.rt σ (.val .non) _ _ _ _ _ (List.prefix_refl _) (Same.refl _) S Rp.non h
instance {g : TG} {wg : Rf → Env → (Env → Prop) → XQ → Prop} {is : List Nat} [hg : VG K B E g wg is] : VS K B E (tAsg te g) (vAsg we wg) where
  run := fun {as γ σ G H D Dv} S h k => by
    refine he.run S h (fun r γ1 as1 v G1 H1 p1 g1 S1 rr q1 => ?_) (k.ex σ)
    exact hg.run S1 rr q1 (fun γ2 as2 σ2 G2 H2 p2 g2 S2 _ q2 => k.nx _ _ _ _ _ (p1.trans p2) (g1.trans g2) S2 q2) ((k.ex σ).mono p1 g1)
end
def vIf (wc : Env → (Bool → Env → Prop) → XQ → Prop) (wt wu : VSW) : VSW := fun γ D => wc γ (fun c γ1 => br c (wt γ1 D) (wu γ1 D)) D.ex
instance {c : TT} {t u : TS} {wc : Env → (Bool → Env → Prop) → XQ → Prop} {wt wu : VSW} [hc : VT K B E c wc] [ht : VS K B E t wt] [hu : VS K B E u wu] : VS K B E (tIfS c t u) (vIf wc wt wu) where
  run := fun {as γ σ G H D Dv} S h k => by
    refine hc.run S h (fun b γ1 as1 b' G1 H1 p1 g1 S1 e q1 => ?_) (k.ex σ)
    cases e
    cases b
    · exact hu.run S1 q1 (k.mono p1 g1)
    · exact ht.run S1 q1 (k.mono p1 g1)
/-- a, b = x, y -/
def vPar (i j : Nat) (wa : Env → (List Rf → Env → Prop) → XQ → Prop) : VSW := fun γ D => wa γ (fun rs γ1 => match rs with
  | [r, s] => D.nx ((γ1.set i r).set j s)
  | _ => False) D.ex
def vAug (i : Nat) (f : Int → Int → Int) (we : VW) : VSW := fun γ D => match nth γ.sl i with
  | some (some (.val (.int x))) => we γ (fun r γ1 => peek r γ1 fun t => match t with
    | .int y => D.nx (γ1.set i (.val (.int (f x y))))
    | _ => False) D.ex
  | _ => False
instance {i : Nat} {f : Int → Int → Int} {te : TE} {we : VW} [he : VE K B E te we] : VS K B E (tAug i te (ipI f)) (vAug i f we) where
  run := fun {as γ σ G H D Dv} S h k => by
    unfold vAug at h
    rw [nth_eq] at h
    split at h
    · rename_i x e
      obtain ⟨v, e1, e2⟩ := S.sl i _ e
      have e2 : Rp K G v (.int x) := e2
      cases e2
      refine ⟨_, e1, ?_⟩
      refine he.run S h (fun r γ1 as1 v G1 H1 p1 g1 S1 rr q1 => ?_) (k.ex σ)
      obtain ⟨t, q, z⟩ := peek_ok S1 rr q1
      split at q
      · exact ⟨_, _, rfl, int_any z, k.nx _ _ _ _ _ p1 g1 (S1.store (r := .val (.int _)) (Rp.int _) i) q⟩
      · exact q.elim
    · exact h.elim
/-- behind this statement R holds -/
structure CutI (n0 : Nat) (fst : (Env → Prop) → Prop) (snd : Env → Prop) : Prop where
  ex : ∃ R : Env → Prop, fst (fun γ1 => ∃ γ2, Le n0 γ1 γ2 ∧ R γ2) ∧ ∀ γ2, R γ2 → snd γ2
def vCut (wt wu : VSW) : VSW := fun γ D => CutI γ.mem.length (fun N => wt γ { D with nx := N }) fun γ2 => wu γ2 D
instance {t u : TS} {wt wu : VSW} [ht : VS K B E t wt] [hu : VS K B E u wu] : VS K B E (Evl.tCut t u) (vCut wt wu) where
  run := fun {as γ σ G H D Dv} S h k => by
    obtain ⟨⟨R, h1, h2⟩⟩ := h
    refine ⟨fun σ' H' => ∃ as' γ' G', as <+: as' ∧ Same G G' ∧ StR K B as' γ' σ' G' H' ∧ R γ', ?_, ?_⟩
    · refine ht.run S h1 ⟨fun γ1 as1 σ1 G1 H1 p1 g1 S1 q1 => ?_, k.bk, k.ct, k.rt, k.ex⟩
      obtain ⟨γ2, le, r⟩ := q1
      obtain ⟨as2, G2, p2, g2, S2⟩ := StR.le le S1 p1 S.mlen
      exact ⟨as2, γ2, G2, p2, g1.trans g2, S2, r⟩
    · rintro σ' H' ⟨as', γ', G', p, g, S', r⟩
      exact hu.run S' (h2 γ' r) (k.mono p g)
/-! ### methods of open lists -/
def mtQ (r : Rf) (γ : Env) (Q : Nat → List T → Prop) : Prop :=
  match r with
  | .ref k => match nth γ.mem k with
    | some (.mu (.lst ts)) => Q k ts
    | _ => False
  | _ => False
section
variable {as : List Addr} {γ : Env} {σ : L2.St} {G H : Hp} {x : V} {r : Rf}
theorem mtQ_ok {Q : Nat → List T → Prop} (S : StR K B as γ σ G H) (rr : RR K B.ex as G r x) (h : mtQ r γ Q) : ∃ k ts a acc, r = .ref k ∧ γ.mem[k]? = some (.mu (.lst ts)) ∧ as[k]? = some a ∧ x = .ref a ∧ H a = some (.lst acc) ∧ RpAll K G acc ts ∧ Q k ts := by
  unfold mtQ at h
  split at h
  · rename_i k
    obtain ⟨a, ea, rfl⟩ := rr
    simp only [nth_eq] at h
    split at h
    · rename_i ts e
      obtain ⟨_, acc, hacc, rpa⟩ := S.mem _ a _ ea e
      exact ⟨k, ts, a, acc, rfl, e, ea, rfl, hacc, rpa, h⟩
    · exact h.elim
  · exact h.elim
end
def vBM (wr : Rf → List Rf → VW) (wo : VW) (wa : Env → (List Rf → Env → Prop) → XQ → Prop) : VW := fun γ Q X => wo γ (fun r γ1 => peek r γ1 (fun t => seqT t fun b _ => b = true) ∧ wa γ1 (fun rs γ2 => wr r rs γ2 Q X) X) X
def vBM0 (wr : Rf → List Rf → VW) (wo : VW) : VW := fun γ Q X => wo γ (fun r γ1 => peek r γ1 (fun t => seqT t fun b _ => b = true) ∧ wr r [] γ1 Q X) X
section
variable {r : V → List V → Hp → VK → Prop} {wr : Rf → List Rf → VW} {to : TE} {wo : VW} [ho : VE K B E to wo] [hr : VM K B E r wr]
theorem tyV_lst {as : List Addr} {γ : Env} {σ : L2.St} {G H : Hp} {x : V} {r : Rf} (S : StR K B as γ σ G H) (rr : RR K B.ex as G r x) (h : peek r γ (fun t => seqT t fun b _ => b = true)) : tyV K "list" x H := by
  obtain ⟨b, ts, a, acc, rfl, sq, _, rfl⟩ := peek_seq S rr h
  exact .inl ⟨rfl, acc, sq⟩
instance {t : TA} {wa : Env → (List Rf → Env → Prop) → XQ → Prop} [ha : VA K B E t wa] : VE K B E (tBM K "list" r to t) (vBM wr wo wa) where
  run := fun {as γ σ G H Q Qv Xv} S h k kx => by
    refine ho.run S h (fun r1 γ1 as1 v1 G1 H1 p1 g1 S1 rr1 q1 => ?_) kx
    obtain ⟨ty, q1⟩ := q1
    refine ⟨tyV_lst S1 rr1 ty, ?_⟩
    refine ha.run S1 q1 (fun rs γ2 as2 vs G2 H2 p2 g2 S2 rr2 q2 => ?_) (kx.mono p1 g1)
    exact hr.run S2 (RR.mono rr1 p2 g2) rr2 q2 ((k.mono p1 g1).mono p2 g2) ((kx.mono p1 g1).mono p2 g2)
instance : VE K B E (tBM0 K "list" r to) (vBM0 wr wo) where
  run := fun {as γ σ G H Q Qv Xv} S h k kx => by
    refine ho.run S h (fun r1 γ1 as1 v1 G1 H1 p1 g1 S1 rr1 q1 => ?_) kx
    obtain ⟨ty, q1⟩ := q1
    exact ⟨tyV_lst S1 rr1 ty, hr.run S1 rr1 .nil q1 (k.mono p1 g1) (kx.mono p1 g1)⟩
end
def arg1 (rs : List Rf) (Q : Rf → Prop) : Prop := match rs with
  | [r] => Q r
  | _ => False
def arg0 (rs : List Rf) (Q : Prop) : Prop := match rs with
  | [] => Q
  | _ => False
/-- append: the item is settled first, then the list is looked up -/
def vAppend : Rf → List Rf → VW := fun r rs γ Q _ => arg1 rs fun y => toT y γ fun t γ1 => mtQ r γ1 fun k ts => ts.length < sizeLine ∧ Q (.val .non) (γ1.put k (.mu (.lst (ts ++ [t]))))
theorem put_non {as : List Addr} {γ : Env} {σ : L2.St} {G H : Hp} {k : Nat} {a : Addr} {m0 t : T} {o : HO} {Q : VK} {Qv : RQ} (kk : KontP K B as σ G (rR K B) Q Qv) (S : StR K B as γ σ G H) (e : γ.mem[k]? = some (.mu m0)) (ea : as[k]? = some a) (q : MutR K G (L2.upd H a o) a t) (h : Qv (.val .non) (γ.put k (.mu t))) : Q .non (L2.upd H a o) :=
  kval kk (S.write e ea q) .non h
theorem put_lst {as : List Addr} {γ : Env} {σ : L2.St} {G H : Hp} {k : Nat} {a : Addr} {m0 : T} {us : List T} {ys : List V} {Q : VK} {Qv : RQ} (kk : KontP K B as σ G (rR K B) Q Qv) (S : StR K B as γ σ G H) (e : γ.mem[k]? = some (.mu m0)) (ea : as[k]? = some a) (q : RpAll K G ys us) (h : Qv (.val .non) (γ.put k (.mu (.lst us)))) : Q .non (L2.upd H a (.lst ys)) :=
  put_non (t := .lst us) kk S e ea ⟨_, upd_same, q⟩ h
instance : VM K B E rAppend vAppend where
  run := fun {as γ σ G H x rx vs rs Q Qv Xv} S rr rrs h kk _ => by
    unfold vAppend arg1 at h
    split at h
    · cases rrs with | cons a b =>
      cases b
      obtain ⟨t, γ1, G1, g1, S1, rp, h⟩ := toT_ok S a h
      obtain ⟨k, ts, a, acc, rfl, e, ea, rfl, hacc, rpa, h1, h2⟩ := mtQ_ok S1 (RR.mono rr (List.prefix_refl _) g1) h
      exact ⟨a, acc, _, rfl, rfl, hacc, by rw [rpa.length]; exact h1, put_lst (kk.mono (List.prefix_refl _) g1) S1 e ea (rpa.snoc rp) h2⟩
    · exact h.elim
def vInsert : Rf → List Rf → VW := fun r rs γ Q _ => match rs with
  | [ri, y] => peek ri γ fun ti => match ti with
    | .int i => toT y γ fun t γ1 => mtQ r γ1 fun k ts => (ts.length < sizeLine ∧ 0 ≤ i ∧ i < 2 ^ 63) ∧ Q (.val .non) (γ1.put k (.mu (.lst (ts.take i.toNat ++ [t] ++ ts.drop i.toNat))))
    | _ => False
  | _ => False
def rInsertU : V → List V → Hp → VK → Prop := fun x vs H Q => ∃ (l : Addr) (xs : List V) (i : Int) (y : V), x = .ref l ∧ vs = [.int i, y] ∧ H l = some (.lst xs) ∧ xs.length < sizeLine ∧ 0 ≤ i ∧ i < 2 ^ 63 ∧ Q .non (L2.upd H l (.lst (xs.take i.toNat ++ [y] ++ xs.drop i.toNat)))
theorem mt_insertU {X : Cx} : MtR X "list.insert" rInsertU := mt_insert
instance : VM K B E rInsertU vInsert where
  run := fun {as γ σ G H x rx vs rs Q Qv Xv} S rr rrs h kk _ => by
    unfold vInsert at h
    split at h
    · cases rrs with | cons a0 b =>
      cases b with | cons a b =>
      cases b
      obtain ⟨ti, h, zi⟩ := peek_ok S a0 h
      split at h
      · have ei := int_any zi
        obtain ⟨t, γ1, G1, g1, S1, rp, h⟩ := toT_ok S a h
        obtain ⟨k, ts, a, acc, rfl, e, ea, rfl, hacc, rpa, h1, h2⟩ := mtQ_ok S1 (RR.mono rr (List.prefix_refl _) g1) h
        exact ⟨a, acc, _, _, rfl, by rw [ei], hacc, by rw [rpa.length]; exact h1.1, h1.2.1, h1.2.2, put_lst (kk.mono (List.prefix_refl _) g1) S1 e ea (((rpa.drop _).append ((RpAll.cons rp .nil).append (rpa.take _)))) h2⟩
      · exact h.elim
    · exact h.elim
def vPop : Rf → List Rf → VW := fun r rs γ Q _ => arg0 rs (mtQ r γ fun k ts => isS (popL ts) fun p => Q (.val p.1) (γ.put k (.mu (.lst p.2))))
instance : VM K B E rPop vPop where
  run := fun {as γ σ G H x rx vs rs Q Qv Xv} S rr rrs h kk _ => by
    unfold vPop arg0 at h
    split at h
    · cases rrs
      obtain ⟨k, ts, a, acc, rfl, e, ea, rfl, hacc, rpa, h⟩ := mtQ_ok S rr h
      obtain ⟨⟨t, us⟩, e0, h2⟩ := isS_e h
      obtain ⟨h1, rfl⟩ := popL_eq e0
      obtain ⟨v, hv, rv⟩ := rpa.get' h1
      exact ⟨a, acc, v, rfl, rfl, hacc, by rw [rpa.length]; exact hv, kval kk (S.write (t := .lst ts.dropLast) e ea ⟨_, upd_same, rpa.dropLast⟩) rv h2⟩
    · exact h.elim
def vPopAt : Rf → List Rf → VW := fun r rs γ Q _ => arg1 rs fun ri => peek ri γ fun ti => match ti with
  | .int i => mtQ r γ fun k ts => (0 ≤ i ∧ i < 2 ^ 63) ∧ isS (popN ts i.toNat) fun p => Q (.val p.1) (γ.put k (.mu (.lst p.2)))
  | _ => False
instance : VM K B E rPopAt vPopAt where
  run := fun {as γ σ G H x rx vs rs Q Qv Xv} S rr rrs h kk _ => by
    unfold vPopAt arg1 at h
    split at h
    · cases rrs with | cons a0 b =>
      cases b
      obtain ⟨ti, h, zi⟩ := peek_ok S a0 h
      split at h
      · rename_i i
        have ei := int_any zi
        obtain ⟨k, ts, a, acc, rfl, e, ea, rfl, hacc, rpa, ⟨b1, b2⟩, h⟩ := mtQ_ok S rr h
        obtain ⟨⟨t, us⟩, e0, h2⟩ := isS_e h
        rw [popN_eq] at e0
        obtain ⟨h1, rfl⟩ : ts[i.toNat]? = some t ∧ ts.eraseIdx i.toNat = us := by
          cases e9 : ts[i.toNat]? with
          | none => rw [e9] at e0; cases e0
          | some x => rw [e9] at e0; cases e0; exact ⟨rfl, rfl⟩
        have hlt : i.toNat < ts.length := (List.getElem?_eq_some_iff.mp h1).1
        have h0 : seqIndex? i ts.length = some i.toNat := seq_ix b1 (by omega)
        obtain ⟨v, hv, rv⟩ := rpa.get' h1
        have j := i.toNat
        exact ⟨a, acc, _, i.toNat, v, rfl, by rw [ei], hacc, by omega, b2, by rw [rpa.length]; exact h0, hv, kval kk (S.write (t := .lst (ts.eraseIdx i.toNat)) e ea ⟨_, upd_same, rpa.eraseIdx _⟩) rv h2⟩
      · exact h.elim
    · exact h.elim
def vReverse : Rf → List Rf → VW := fun r rs γ Q _ => arg0 rs (mtQ r γ fun k ts => Q (.val .non) (γ.put k (.mu (.lst ts.reverse))))
instance : VM K B E rReverse vReverse where
  run := fun {as γ σ G H x rx vs rs Q Qv Xv} S rr rrs h kk _ => by
    unfold vReverse arg0 at h
    split at h
    · cases rrs
      obtain ⟨k, ts, a, acc, rfl, e, ea, rfl, hacc, rpa, h2⟩ := mtQ_ok S rr h
      exact ⟨a, acc, rfl, rfl, hacc, put_lst kk S e ea (rpa.reverse) h2⟩
    · exact h.elim
def vClear : Rf → List Rf → VW := fun r rs γ Q _ => arg0 rs (mtQ r γ fun k ts => Q (.val .non) (γ.put k (.mu (.lst []))))
instance : VM K B E rClear vClear where
  run := fun {as γ σ G H x rx vs rs Q Qv Xv} S rr rrs h kk _ => by
    unfold vClear arg0 at h
    split at h
    · cases rrs
      obtain ⟨k, ts, a, acc, rfl, e, ea, rfl, hacc, rpa, h2⟩ := mtQ_ok S rr h
      exact ⟨a, acc, rfl, rfl, hacc, put_lst kk S e ea (.nil) h2⟩
    · exact h.elim
/-- extend by a list -/
def vExtend : Rf → List Rf → VW := fun r rs γ Q _ => arg1 rs fun y => peek y γ fun t => match t with
  | .lst us => mtQ r γ fun k ts => ts.length + us.length ≤ sizeLine ∧ Q (.val .non) (γ.put k (.mu (.lst (ts ++ us))))
  | _ => False
instance : VM K B E rExtend vExtend where
  run := fun {as γ σ G H x rx vs rs Q Qv Xv} S rr rrs h kk _ => by
    unfold vExtend arg1 at h
    split at h
    · cases rrs with | cons a0 b =>
      cases b
      obtain ⟨ti, h, zi⟩ := peek_ok S a0 h
      split at h
      · obtain ⟨b, ys, rfl, e2, p2⟩ := lst_any S zi
        obtain ⟨k, ts, a, acc, rfl, e, ea, rfl, hacc, rpa, h1, h2⟩ := mtQ_ok S rr h
        exact ⟨a, b, acc, ys, rfl, rfl, hacc, e2, by rw [rpa.length, p2.length]; exact h1, put_lst kk S e ea (p2.append rpa) h2⟩
      · exact h.elim
    · exact h.elim
/-- index: the first equal one -/
def vIndex : Rf → List Rf → VW := fun r rs γ Q _ => arg1 rs fun y => peek y γ fun u => peek r γ fun t => match t with
  | .lst ts => (okD u = true ∧ okD (.lst ts) = true) ∧ ∃ (j : Nat) (z : T), ts[j]? = some z ∧ eqT z u = true ∧ (∀ (m : Nat) (z' : T), m < j → ts[m]? = some z' → eqT z' u = false) ∧ Q (.val (.int (j : Nat))) γ
  | .scr ts => (okD u = true ∧ okD (.lst ts) = true) ∧ ∃ (j : Nat) (z : T), ts[j]? = some z ∧ eqT z u = true ∧ (∀ (m : Nat) (z' : T), m < j → ts[m]? = some z' → eqT z' u = false) ∧ Q (.val (.int (j : Nat))) γ
  | _ => False
theorem toDs_at (ts : List T) (j : Nat) : (toDs ts)[j]? = ts[j]?.map toD := by rw [toDs_map, List.getElem?_map]
instance : VM K B E (rIndexD K) vIndex where
  run := fun {as γ σ G H x rx vs rs Q Qv Xv} S rr rrs h kk _ => by
    unfold vIndex arg1 at h
    split at h
    · cases rrs with | @cons _ v1 _ _ a0 b =>
      cases b
      obtain ⟨u, h, z0⟩ := peek_rp S a0 h
      obtain ⟨t, h, z⟩ := peek_rp S rr h
      have fin : ∀ (ts : List T) (a : Addr), x = .ref a → Dp K H (.ref a) (.list (toDs ts)) → SeqAt.shaped (.list (toDs ts)) = true → (okD u = true ∧ okD (.lst ts) = true) ∧ (∃ (j : Nat) (z : T), ts[j]? = some z ∧ eqT z u = true ∧ (∀ (m : Nat) (z' : T), m < j → ts[m]? = some z' → eqT z' u = false) ∧ Qv (.val (.int (j : Nat))) γ) → rIndexD K x [v1] H Q := by
        rintro ts a rfl hd hs ⟨⟨o1, o2⟩, j, z, e1, e2, e3, q⟩
        refine ⟨a, _, toD u, toDs ts, j, toD z, rfl, rfl, hd, z0.dp (okD_data o1), hs, z0.shaped o1, by rw [toDs_at, e1]; rfl, e2, fun m z' hm e => ?_, kval kk S (.int _) q⟩
        rw [toDs_at] at e
        cases et : ts[m]? with
        | none => rw [et] at e; cases e
        | some z2 =>
          rw [et] at e
          cases e
          exact e3 m z2 hm et
      split at h
      · rename_i ts
        have o2 := h.1.2
        have d := z.dp (okD_data o2)
        have s := z.shaped o2
        cases z with | lst ea rp => exact fin ts _ rfl d s h
      · rename_i ts
        have o2 : okD (.scr ts) = true := h.1.2
        have d := z.dp (okD_data o2)
        have s := z.shaped o2
        cases z with | scr ea rp => exact fin ts _ rfl d s h
      · exact h.elim
    · exact h.elim
end
end VL
set_option Elab.async false
set_option linter.all false
set_option maxRecDepth 100000
set_option maxHeartbeats 4000000
/-! readings over values: loops, comprehensions -/
namespace VL
open PySem PySem.Spec PyProof.Rows L2 XR
/-- what is walked: settled items; an open list as it stands -/
inductive Src where
  | fix (ts : List T) | live (k : Nat) (ts : List T)
def Src.ts : Src → List T
  | .fix ts => ts
  | .live _ ts => ts
def Src.on (s : Src) (γ : Env) : Prop := match s with
  | .fix _ => True
  | .live k ts => nth γ.mem k = some (.mu (.lst ts))
def SrcOk (K : PySem.W.Frag) (B : Bs) (as0 : List Addr) (G0 : Hp) (J : It) (src : Src) : Prop :=
  ∀ {as : List Addr} {γ : Env} {σ : L2.St} {G H : Hp}, as0 <+: as → Same G0 G → StR K B as γ σ G H → src.on γ → (∀ i, i < src.ts.length → J.go i H) ∧ J.stop src.ts.length H ∧
    ∀ (i : Nat) (x : V) (H' : Hp), i < src.ts.length → J.yld i H x H' → ∃ (G' : Hp) (t : T), src.ts[i]? = some t ∧ Same G G' ∧ StR K B as γ σ G' H' ∧ Rp K G' x t
class VI (K : PySem.W.Frag) (B : Bs) (E : L2.St → XK) (t : TI) (w : outParam (Env → (Src → Env → Prop) → XQ → Prop)) : Prop where
  run : ∀ {as : List Addr} {γ : Env} {σ : L2.St} {G H : Hp} {R : It → Hp → Prop} {Qv : Src → Env → Prop} {Xv : XQ}, StR K B as γ σ G H → w γ Qv Xv →
    (∀ (src : Src) (γ' : Env) (as' : List Addr) (G' H' : Hp) (J : It), as <+: as' → Same G G' → StR K B as' γ' σ G' H' → SrcOk K B as' G' J src → Qv src γ' → R J H') → KontX K B as σ G (E σ) Xv → t σ H R
/-! ### a list or a tuple -/
def iDyn (K : PySem.W.Frag) (tl : TE) : TI := fun σ H R => tl σ H fun x H1 => ∃ a, x = .ref a ∧ (((∃ xs, SqL K H1 a xs) ∧ R (Itl K a) H1) ∨ ((∃ xs, SqT K H1 a xs) ∧ R (Itt K a) H1))
def iDynL (K : PySem.W.Frag) (tl : TE) : TI := iDyn K tl
section
variable {X : Cx} {tg : Expr}
theorem pi_dyn {l : Expr} {tl : TE} (hl : PE X l tl) : PI X tg l (iDyn X.K tl) := by
  refine ⟨fun pins s σ H R I h => ?_⟩
  refine thn (hl.run pins s σ H _ I h) fun v s1 ⟨x, H1, I1, r1, q1⟩ => ?_
  obtain ⟨a, e, q1⟩ := q1
  subst e
  cases r1
  rcases q1 with ⟨⟨xs, hq⟩, q⟩ | ⟨⟨xs, hq⟩, q⟩
  · obtain ⟨its, rv, p, hz⟩ := I1.list hq
    refine wpAny_pyIter_list p.isList ?_
    refine ⟨s1.heap.objs.size, [s1.heap.objs.size], _, _, H1, rfl, I1.kept (t' := s1.toks) fun b o e => Heap.get?_push_of_some _ e, turn_list a _, ⟨_, Heap.get?_push_size _ rfl, rfl, rfl⟩, fun b hb => ?_, q⟩
    have e : b = s1.heap.objs.size := by simpa using hb
    subst e
    exact I1.fpOk (Nat.le_refl _) (I1.hok.fresh (Nat.le_refl _))
  · obtain ⟨its, rv, p, hz⟩ := I1.tuple hq
    refine wpAny_pyIter_tuple (show s1.heap.IsTuple a its.toArray from p) ?_
    refine ⟨s1.heap.objs.size, [s1.heap.objs.size], _, _, H1, rfl, I1.kept (t' := s1.toks) fun b o e => Heap.get?_push_of_some _ e, turn_tuple a _, ⟨_, Heap.get?_push_size _ rfl, rfl, rfl⟩, fun b hb => ?_, q⟩
    have e : b = s1.heap.objs.size := by simpa using hb
    subst e
    exact I1.fpOk (Nat.le_refl _) (I1.hok.fresh (Nat.le_refl _))
theorem pi_dynL {l : Expr} {tl : TE} (hl : PE X l tl) : PI X tg l (iDynL X.K tl) := pi_dyn hl
end
section
variable {K : PySem.W.Frag} {B : Bs} {E : L2.St → XK}
section
variable {as0 : List Addr} {G0 : Hp} {a : Addr} {acc : List V} {ts : List T}
theorem src_list (e : SqL K G0 a acc) (rp : RpAll K G0 acc ts) : SrcOk K B as0 G0 (Itl K a) (.fix ts) := fun {as γ σ G H} _ g S _ => by
  have hs : SqL K H a acc := SqL.same e (g.trans S.vw)
  have hl : acc.length = ts.length := rp.length
  refine ⟨fun i hi => ⟨acc, acc[i]'(by rw [hl]; exact hi), hs, List.getElem?_eq_getElem _⟩, ⟨acc, hs, Nat.le_of_eq hl⟩, fun i x H' hi y => ?_⟩
  obtain ⟨rfl, y⟩ := y
  obtain ⟨t, et, rt⟩ := rp.get (y acc hs)
  exact ⟨G, t, et, Same.refl _, S, rt.mono g⟩
theorem src_tup (e : SqT K G0 a acc) (rp : RpAll K G0 acc ts) : SrcOk K B as0 G0 (Itt K a) (.fix ts) := fun {as γ σ G H} _ g S _ => by
  have hs : SqT K H a acc := SqT.same e (g.trans S.vw)
  have hl : acc.length = ts.length := rp.length
  refine ⟨fun i hi => ⟨acc, acc[i]'(by rw [hl]; exact hi), hs, List.getElem?_eq_getElem _⟩, ⟨acc, hs, Nat.le_of_eq hl⟩, fun i x H' hi y => ?_⟩
  obtain ⟨rfl, y⟩ := y
  obtain ⟨t, et, rt⟩ := rp.get (y acc hs)
  exact ⟨G, t, et, Same.refl _, S, rt.mono g⟩
theorem src_live {k : Nat} (ea : as0[k]? = some a) : SrcOk K B as0 G0 (Itl K a) (.live k ts) := fun {as γ σ G H} p g S on => by
  have on : nth γ.mem k = some (.mu (.lst ts)) := on
  rw [nth_eq] at on
  obtain ⟨_, acc, hacc, rp⟩ := S.mem k a _ (pre_get p ea) on
  have hs : SqL K H a acc := SqL.of hacc
  have hl : acc.length = ts.length := rp.length
  refine ⟨fun i hi => ⟨acc, acc[i]'(by rw [hl]; exact hi), hs, List.getElem?_eq_getElem _⟩, ⟨acc, hs, Nat.le_of_eq hl⟩, fun i x H' hi y => ?_⟩
  obtain ⟨rfl, y⟩ := y
  obtain ⟨t, et, rt⟩ := rp.get (y acc hs)
  exact ⟨G, t, et, Same.refl _, S, rt⟩
end
def vIter (wl : VW) : Env → (Src → Env → Prop) → XQ → Prop := fun γ Q X => wl γ (fun r γ1 => toT r γ1 fun t γ2 => seqT t fun _ ts => Q (.fix ts) γ2) X
instance {tl : TE} {wl : VW} [hl : VE K B E tl wl] : VI K B E (iDyn K tl) (vIter wl) where
  run := fun {as γ σ G H R Qv Xv} S h k kx => by
    refine hl.run S h (fun r1 γ1 as1 v1 G1 H1 p1 g1 S1 rr1 q1 => ?_) kx
    obtain ⟨t, γ2, G2, g2, S2, rp, q⟩ := toT_ok S1 rr1 q1
    cases rp with
    | lst e a => exact ⟨_, rfl, .inl ⟨⟨_, SqL.of (S2.vw _ _ e)⟩, k _ _ _ _ _ _ p1 (g1.trans g2) S2 (src_list (SqL.of e) a) q⟩⟩
    | scr e a => exact ⟨_, rfl, .inl ⟨⟨_, SqL.same e S2.vw⟩, k _ _ _ _ _ _ p1 (g1.trans g2) S2 (src_list e a) q⟩⟩
    | tup e a => exact ⟨_, rfl, .inr ⟨⟨_, SqT.same e.t S2.vw⟩, k _ _ _ _ _ _ p1 (g1.trans g2) S2 (src_tup e.t a) q⟩⟩
    | _ => exact q.elim
def vIterL (wl : VW) : Env → (Src → Env → Prop) → XQ → Prop := fun γ Q X => wl γ (fun r γ1 => mtQ r γ1 fun k ts => Q (.live k ts) γ1) X
instance {tl : TE} {wl : VW} [hl : VE K B E tl wl] : VI K B E (iDynL K tl) (vIterL wl) where
  run := fun {as γ σ G H R Qv Xv} S h k kx => by
    refine hl.run S h (fun r1 γ1 as1 v1 G1 H1 p1 g1 S1 rr1 q1 => ?_) kx
    obtain ⟨kk, ts, a, acc, rfl, e, ea, rfl, hacc, rpa, q⟩ := mtQ_ok S1 rr1 q1
    exact ⟨a, rfl, .inl ⟨⟨acc, SqL.of hacc⟩, k _ _ _ _ _ _ p1 g1 S1 (src_live ea) q⟩⟩
/-! ### ranges -/
def rngT (lo : Int) (n : Nat) : List T := (List.range n).map fun i => .int (lo + (i : Nat))
theorem rngT_at {lo : Int} {n i : Nat} {t : T} (h : (rngT lo n)[i]? = some t) : i < n ∧ t = .int (lo + (i : Nat)) := by
  unfold rngT at h
  have hl : i < n := by
    rcases Nat.lt_or_ge i n with z | z
    · exact z
    · rw [List.getElem?_eq_none (by simpa using z)] at h; cases h
  rw [List.getElem?_map, List.getElem?_range hl] at h
  exact ⟨hl, (Option.some.inj h).symm⟩
theorem rngT_len {lo : Int} {n : Nat} : (rngT lo n).length = n := by simp [rngT]
theorem src_rng {as0 : List Addr} {G0 : Hp} {lo : Int} {n : Nat} : SrcOk K B as0 G0 (Itr lo n) (.fix (rngT lo n)) := fun {as γ σ G H} _ g S _ => by
  have hl : (Src.fix (rngT lo n)).ts.length = n := rngT_len
  rw [hl]
  refine ⟨fun i hi => hi, Nat.le_refl _, fun i x H' hi y => ?_⟩
  obtain ⟨rfl, rfl⟩ := y
  refine ⟨G, .int (lo + (i : Nat)), ?_, Same.refl _, S, .int _⟩
  show (rngT lo n)[i]? = _
  unfold rngT
  rw [List.getElem?_map, List.getElem?_range hi]
  rfl
def intsQ (rs : List Rf) (γ : Env) (Q : List Int → Prop) : Prop := match rs with
  | [] => Q []
  | r :: rs => peek r γ fun t => match t with
    | .int i => intsQ rs γ fun is => Q (i :: is)
    | _ => False
theorem intsQ_ok {as : List Addr} {γ : Env} {σ : L2.St} {G H : Hp} (S : StR K B as γ σ G H) : ∀ {rs : List Rf} {vs : List V} {Q : List Int → Prop}, RRs K B.ex as G rs vs → intsQ rs γ Q → ∃ is : List Int, vs = is.map V.int ∧ Q is
  | _, _, Q, .nil, h => ⟨[], rfl, h⟩
  | _, _, Q, .cons a b, h => by
    obtain ⟨t, q, z⟩ := peek_ok S a h
    split at q
    · obtain ⟨is, rfl, q⟩ := intsQ_ok S b q
      exact ⟨_ :: is, by rw [int_any z]; rfl, q⟩
    · exact q.elim
def vRng1 (wa : Env → (List Rf → Env → Prop) → XQ → Prop) : Env → (Src → Env → Prop) → XQ → Prop := fun γ Q X => wa γ (fun rs γ1 => intsQ rs γ1 fun is => match is with
  | [j] => (-(2 ^ 62) ≤ j ∧ j < 2 ^ 62) ∧ Q (.fix (rngT 0 j.toNat)) γ1
  | _ => False) X
def vRng2 (wa : Env → (List Rf → Env → Prop) → XQ → Prop) : Env → (Src → Env → Prop) → XQ → Prop := fun γ Q X => wa γ (fun rs γ1 => intsQ rs γ1 fun is => match is with
  | [i, j] => (-(2 ^ 62) ≤ i ∧ i < 2 ^ 62 ∧ -(2 ^ 62) ≤ j ∧ j < 2 ^ 62) ∧ Q (.fix (rngT i (j - i).toNat)) γ1
  | _ => False) X
section
variable {ta : TA} {wa : Env → (List Rf → Env → Prop) → XQ → Prop} [ha : VA K B E ta wa]
instance : VI K B E (iRng1 ta) (vRng1 wa) where
  run := fun {as γ σ G H R Qv Xv} S h k kx => by
    refine ha.run S h (fun rs γ1 as1 vs G1 H1 p1 g1 S1 rr1 q1 => ?_) kx
    obtain ⟨is, rfl, q⟩ := intsQ_ok S1 rr1 q1
    split at q
    · exact ⟨_, rfl, q.1.1, q.1.2, k _ _ _ _ _ _ p1 g1 S1 src_rng q.2⟩
    · exact q.elim
instance : VI K B E (iRng2 ta) (vRng2 wa) where
  run := fun {as γ σ G H R Qv Xv} S h k kx => by
    refine ha.run S h (fun rs γ1 as1 vs G1 H1 p1 g1 S1 rr1 q1 => ?_) kx
    obtain ⟨is, rfl, q⟩ := intsQ_ok S1 rr1 q1
    split at q
    · exact ⟨_, _, rfl, q.1, k _ _ _ _ _ _ p1 g1 S1 src_rng q.2⟩
    · exact q.elim
end
/-! ### enumerate, zip -/
def enumT : Int → List T → List T
  | _, [] => []
  | n, t :: r => .tup [.int n, t] :: enumT (n + 1) r
theorem enumT_len : ∀ (n : Int) (ts : List T), (enumT n ts).length = ts.length
  | _, [] => rfl
  | n, _ :: r => congrArg (· + 1) (enumT_len (n + 1) r)
theorem enumT_at : ∀ (n : Int) (ts : List T) (i : Nat), (enumT n ts)[i]? = ts[i]?.map fun t => .tup [.int (n + (i : Nat)), t]
  | _, [], i => by simp [enumT]
  | n, t :: r, 0 => by simp [enumT]
  | n, t :: r, i + 1 => by
    show (enumT (n + 1) r)[i]? = _
    rw [enumT_at (n + 1) r i]
    have e : n + 1 + (i : Int) = n + ((i + 1 : Nat) : Int) := by omega
    rw [e]; rfl
def zipT : List T → List T → List T
  | a :: as, b :: bs => .tup [a, b] :: zipT as bs
  | _, _ => []
theorem zipT_len : ∀ (as bs : List T), (zipT as bs).length = min as.length bs.length
  | [], _ => by simp [zipT]
  | _ :: _, [] => by simp [zipT]
  | a :: as, b :: bs => by
    show (zipT as bs).length + 1 = min (as.length + 1) (bs.length + 1)
    rw [zipT_len as bs]; omega
theorem zipT_at : ∀ (as bs : List T) (i : Nat) {a b : T}, as[i]? = some a → bs[i]? = some b → (zipT as bs)[i]? = some (.tup [a, b])
  | x :: as, y :: bs, 0, a, b, h1, h2 => by cases h1; cases h2; rfl
  | x :: as, y :: bs, i + 1, a, b, h1, h2 => zipT_at as bs i h1 h2
  | [], _, _, _, _, h1, _ => by cases h1
  | _ :: _, [], _, _, _, _, h2 => by cases h2
theorem zipT_inv {as bs : List T} {i : Nat} {t : T} (h : (zipT as bs)[i]? = some t) : ∃ a b, as[i]? = some a ∧ bs[i]? = some b ∧ t = .tup [a, b] := by
  have hl : i < (zipT as bs).length := (List.getElem?_eq_some_iff.mp h).1
  rw [zipT_len] at hl
  have h1 : as[i]? = some as[i] := List.getElem?_eq_getElem (by omega)
  have h2 : bs[i]? = some bs[i] := List.getElem?_eq_getElem (by omega)
  refine ⟨_, _, h1, h2, ?_⟩
  rw [zipT_at as bs i h1 h2] at h
  exact (Option.some.inj h).symm
theorem src_pair {as0 : List Addr} {G0 : Hp} {J : It} {n : Nat} {xs ys : Nat → Option V} {ts : List T} (w : Walk J n (Same G0) (YPair xs ys)) (hn : ts.length = n)
    (hp : ∀ (i : Nat) (x y : V), i < n → xs i = some x → ys i = some y → ∃ a b, ts[i]? = some (.tup [a, b]) ∧ Rp K G0 x a ∧ Rp K G0 y b) : SrcOk K B as0 G0 J (.fix ts) := fun {as γ σ G H} _ g S _ => by
  have hl : (Src.fix ts).ts.length = n := hn
  rw [hl]
  have gv := g.trans S.vw
  refine ⟨fun i hi => w.goes i H hi gv, w.stops H gv, fun i x H' hi y => ?_⟩
  obtain ⟨Tp, u, v, rfl, hT, rfl, h1, h2⟩ := w.yields i H x H' hi gv y
  obtain ⟨a, b, e, ra, rb⟩ := hp i u v hi h1 h2
  obtain ⟨S', g'⟩ := S.lay (o := .tup [u, v]) hT
  exact ⟨_, _, e, g', S', .tup (.inl upd_same) (.cons (ra.mono (g.trans g')) (.cons (rb.mono (g.trans g')) .nil))⟩
def vEnum (wa : Env → (List Rf → Env → Prop) → XQ → Prop) : Env → (Src → Env → Prop) → XQ → Prop := fun γ Q X => wa γ (fun rs γ1 => arg1 rs fun r => toT r γ1 fun t γ2 => seqT t fun _ ts => Q (.fix (enumT 0 ts)) γ2) X
def vZip (wa : Env → (List Rf → Env → Prop) → XQ → Prop) : Env → (Src → Env → Prop) → XQ → Prop := fun γ Q X => wa γ (fun rs γ1 => match rs with
  | [r, r2] => toT r γ1 fun t γ2 => toT r2 γ2 fun t2 γ3 => seqT t fun _ ts => seqT t2 fun _ us => Q (.fix (zipT ts us)) γ3
  | _ => False) X
theorem seq_rp {G : Hp} {v : V} {t : T} {Q : Bool → List T → Prop} (rp : Rp K G v t) (h : seqT t Q) : ∃ b ts a acc, v = .ref a ∧ SqA K G a acc ∧ RpAll K G acc ts ∧ Q b ts := by
  cases rp with
  | lst e a => exact ⟨true, _, _, _, rfl, .inl (SqL.of e), a, h⟩
  | scr e a => exact ⟨true, _, _, _, rfl, .inl e, a, h⟩
  | tup e a => exact ⟨false, _, _, _, rfl, .inr e.t, a, h⟩
  | _ => exact h.elim
section
variable {ta : TA} {wa : Env → (List Rf → Env → Prop) → XQ → Prop} [ha : VA K B E ta wa]
instance : VI K B E (iEnumQ K ta) (vEnum wa) where
  run := fun {as γ σ G H R Qv Xv} S h k kx => by
    refine ha.run S h (fun rs γ1 as1 vs G1 H1 p1 g1 S1 rr1 q1 => ?_) kx
    unfold arg1 at q1
    split at q1
    · cases rr1 with | cons a0 b =>
      cases b
      obtain ⟨t, γ2, G2, g2, S2, rp, q⟩ := toT_ok S1 a0 q1
      obtain ⟨b, ts, a, acc, rfl, sq, rpa, q⟩ := seq_rp rp q
      refine ⟨a, acc, G2, rfl, sq, S2.vw, fun J w => k _ _ _ _ _ _ p1 (g1.trans g2) S2 (src_pair w (by rw [enumT_len]; exact rpa.length.symm) fun i x y hi h1 h2 => ?_) q⟩
      cases h1
      obtain ⟨t, et, rt⟩ := rpa.get h2
      exact ⟨_, t, by rw [enumT_at, et, Int.zero_add]; rfl, .int _, rt⟩
    · exact q1.elim
instance : VI K B E (iZipQ K ta) (vZip wa) where
  run := fun {as γ σ G H R Qv Xv} S h k kx => by
    refine ha.run S h (fun rs γ1 as1 vs G1 H1 p1 g1 S1 rr1 q1 => ?_) kx
    split at q1
    · cases rr1 with | cons a0 b =>
      cases b with | cons a1 b =>
      cases b
      obtain ⟨t, γ2, G2, g2, S2, rp, q⟩ := toT_ok S1 a0 q1
      obtain ⟨t2, γ3, G3, g3, S3, rp2, q⟩ := toT_ok S2 (RR.mono a1 (List.prefix_refl _) g2) q
      obtain ⟨b, ts, a, acc, rfl, sq, rpa, q⟩ := seq_rp (rp.mono g3) q
      obtain ⟨b2, us, a2, acc2, rfl, sq2, rpa2, q⟩ := seq_rp rp2 q
      refine ⟨a, a2, acc, acc2, G3, rfl, sq, sq2, S3.vw, fun J w => k _ _ _ _ _ _ p1 ((g1.trans g2).trans g3) S3 (src_pair w (by rw [zipT_len, rpa.length, rpa2.length]) fun i x y hi h1 h2 => ?_) q⟩
      obtain ⟨t, et, rt⟩ := rpa.get h1
      obtain ⟨t2, et2, rt2⟩ := rpa2.get h2
      exact ⟨t, t2, zipT_at _ _ _ et et2, rt, rt2⟩
    · exact q1.elim
end
/-! ### for -/
/-- I: the invariant by the turn -/
structure ForI (src : Src) (n0 : Nat) (γ1 : Env) (step : T → Env → (Env → Prop) → Prop) (done : Env → Prop) : Prop where
  ex : ∃ I : Nat → Env → Prop, (∃ γ2, Le n0 γ1 γ2 ∧ I 0 γ2) ∧ (∀ i γ2, I i γ2 → src.on γ2) ∧
    (∀ i t γ2, src.ts[i]? = some t → I i γ2 → step t γ2 fun γ4 => ∃ γ5, Le n0 γ4 γ5 ∧ I (i + 1) γ5) ∧ ∀ γ2, I src.ts.length γ2 → done γ2
def vFor (wi : Env → (Src → Env → Prop) → XQ → Prop) (wg : Rf → Env → (Env → Prop) → XQ → Prop) (wb : VSW) : VSW := fun γ D => wi γ (fun src γ1 =>
  ForI src γ1.mem.length γ1 (fun t γ2 N => wg (.val t) γ2 (fun γ3 => wb γ3 { D with nx := N, ct := N, bk := D.nx }) D.ex) D.nx) D.ex
instance {wi : TI} {g : TG} {tb : TS} {vi : Env → (Src → Env → Prop) → XQ → Prop} {vg : Rf → Env → (Env → Prop) → XQ → Prop} {is : List Nat} {vb : VSW} [hi : VI K B E wi vi] [hg : VG K B E g vg is] [hb : VS K B E tb vb] : VS K B E (tFor wi g tb) (vFor vi vg vb) where
  run := fun {as γ σ G H D Dv} S h k => by
    refine hi.run S h (fun src γ1 as1 G1 H1 J p1 g1 S1 ok q1 => ?_) (k.ex σ)
    obtain ⟨⟨I, ⟨γ0, le0, i0⟩, on, step, done⟩⟩ := q1
    obtain ⟨as0, G0, pp0, gg0, SS0⟩ := StR.le le0 S1 (List.prefix_refl _) S1.mlen
    refine ⟨fun i m σ' H' => m = src.ts.length - i ∧ i ≤ src.ts.length ∧ ∃ as' γ' G', as1 <+: as' ∧ Same G1 G' ∧ StR K B as' γ' σ' G' H' ∧ I i γ', ⟨_, rfl, Nat.zero_le _, as0, γ0, G0, pp0, gg0, SS0, i0⟩, ?_⟩
    rintro i m σ' H' ⟨rfl, hi', as', γ', G', p', g', S', inv⟩
    obtain ⟨go, stop, yld⟩ := ok p' g' S' (on i γ' inv)
    by_cases hlt : i < src.ts.length
    · refine .inr ⟨go i hlt, fun σ'' H'' => i + 1 ≤ src.ts.length ∧ ∃ as'' γ'' G'', as1 <+: as'' ∧ Same G1 G'' ∧ StR K B as'' γ'' σ'' G'' H'' ∧ I (i + 1) γ'', fun σ'' H'' q => ⟨_, by omega, rfl, q.1, q.2⟩, fun x H'' hy => ?_⟩
      obtain ⟨G2, t, et, g2, S2, rp⟩ := yld i x H'' hlt hy
      have k2 : KontD K B E as' G2 D Dv := (k.mono p1 g1).mono p' (g'.trans g2)
      refine hg.run S2 (r := .val t) rp (step i t γ' et inv) (fun γ3 as3 σ3 G3 H3 p3 g3 S3 _ q3 => ?_) (k2.ex σ')
      have k3 := k2.mono p3 g3
      have again : KontS K B as3 G3 (fun σ'' H'' => i + 1 ≤ src.ts.length ∧ ∃ as'' γ'' G'', as1 <+: as'' ∧ Same G1 G'' ∧ StR K B as'' γ'' σ'' G'' H'' ∧ I (i + 1) γ'') (fun γ4 => ∃ γ5, Le γ1.mem.length γ4 γ5 ∧ I (i + 1) γ5) := by
        rintro γ4 as4 σ4 G4 H4 p4 g4 S4 ⟨γ5, le5, i5⟩
        obtain ⟨as5, G5, p5, g5, S5⟩ := StR.le le5 S4 ((p'.trans p3).trans p4) S1.mlen
        exact ⟨hlt, as5, γ5, G5, p5, (((g'.trans g2).trans g3).trans g4).trans g5, S5, i5⟩
      exact hb.run S3 q3 ⟨again, k3.nx, again, k3.rt, k3.ex⟩
    · have e : i = src.ts.length := by omega
      subst e
      exact .inl ⟨stop, k.nx _ _ _ _ _ (p1.trans p') (g1.trans g') S' (done γ' inv)⟩
/-! ### while -/
structure WhileI (n0 : Nat) (γ1 : Env) (step : Env → (Env → Prop) → Prop) : Prop where
  ex : ∃ I : Nat → Env → Prop, (∃ m γ2, Le n0 γ1 γ2 ∧ I m γ2) ∧ ∀ m γ2, I m γ2 → step γ2 fun γ4 => ∃ γ5 m', Le n0 γ4 γ5 ∧ m' < m ∧ I m' γ5
def vWhile (wc : Env → (Bool → Env → Prop) → XQ → Prop) (wb : VSW) : VSW := fun γ D => WhileI γ.mem.length γ fun γ2 N => wc γ2 (fun c γ3 => br c (wb γ3 { D with nx := N, ct := N, bk := D.nx }) (D.nx γ3)) D.ex
instance {c : TT} {tb : TS} {wc : Env → (Bool → Env → Prop) → XQ → Prop} {vb : VSW} [hc : VT K B E c wc] [hb : VS K B E tb vb] : VS K B E (tWhile c tb) (vWhile wc vb) where
  run := fun {as γ σ G H D Dv} S h k => by
    obtain ⟨⟨I, ⟨m0, γ0, le0, i0⟩, step⟩⟩ := h
    obtain ⟨as0, G0, pp0, gg0, SS0⟩ := StR.le le0 S (List.prefix_refl _) S.mlen
    refine ⟨fun m σ' H' => ∃ as' γ' G', as <+: as' ∧ Same G G' ∧ StR K B as' γ' σ' G' H' ∧ I m γ', ⟨m0, as0, γ0, G0, pp0, gg0, SS0, i0⟩, ?_⟩
    rintro m σ' H' ⟨as', γ', G', p', g', S', inv⟩
    have k2 : KontD K B E as' G' D Dv := k.mono p' g'
    refine hc.run S' (step m γ' inv) (fun b γ3 as3 b' G3 H3 p3 g3 S3 e q3 => ?_) (k2.ex σ')
    cases e
    have k3 := k2.mono p3 g3
    cases b with
    | false => exact k3.nx _ _ _ _ _ (List.prefix_refl _) (Same.refl _) S3 q3
    | true =>
      refine ⟨fun σ'' H'' => ∃ m', m' < m ∧ ∃ as'' γ'' G'', as <+: as'' ∧ Same G G'' ∧ StR K B as'' γ'' σ'' G'' H'' ∧ I m' γ'', fun _ _ q => q, ?_⟩
      have again : KontS K B as3 G3 (fun σ'' H'' => ∃ m', m' < m ∧ ∃ as'' γ'' G'', as <+: as'' ∧ Same G G'' ∧ StR K B as'' γ'' σ'' G'' H'' ∧ I m' γ'') (fun γ4 => ∃ γ5 m', Le γ.mem.length γ4 γ5 ∧ m' < m ∧ I m' γ5) := by
        rintro γ4 as4 σ4 G4 H4 p4 g4 S4 ⟨γ5, m', le5, hm, i5⟩
        obtain ⟨as5, G5, p5, g5, S5⟩ := StR.le le5 S4 ((p'.trans p3).trans p4) S.mlen
        exact ⟨m', hm, as5, γ5, G5, p5, ((g'.trans g3).trans g4).trans g5, S5, i5⟩
      exact hb.run S3 q3 ⟨again, k3.nx, again, k3.rt, k3.ex⟩
/-! ### comprehensions -/
class MemL (i : Nat) (vs : List Nat) : Prop where
  h : i ∈ vs
class SubL (is vs : List Nat) : Prop where
  h : ∀ i ∈ is, i ∈ vs
instance memL0 {i : Nat} {vs : List Nat} : MemL i (i :: vs) := ⟨List.mem_cons_self⟩
instance memL1 {i v : Nat} {vs : List Nat} [h : MemL i vs] : MemL i (v :: vs) := ⟨List.mem_cons_of_mem _ h.h⟩
instance subL0 {vs : List Nat} : SubL [] vs := ⟨fun _ h => by cases h⟩
instance subL1 {i : Nat} {is vs : List Nat} [h : MemL i vs] [k : SubL is vs] : SubL (i :: is) vs := ⟨fun j hj => by
  rcases List.mem_cons.mp hj with rfl | hj
  · exact h.h
  · exact k.h j hj⟩
def Env.wipe (γ : Env) : List Nat → Env
  | [] => γ
  | v :: vs => (Env.wipe γ vs).unset v
theorem StR.wipe {as : List Addr} {γ : Env} {σ : L2.St} {G H : Hp} (S : StR K B as γ σ G H) : ∀ vs : List Nat, StR K B as (γ.wipe vs) σ G H
  | [] => S
  | v :: vs => (StR.wipe S vs).unset v
theorem Env.wipe_len (γ : Env) : ∀ vs : List Nat, (γ.wipe vs).sl.length = γ.sl.length
  | [] => rfl
  | v :: vs => by show ((γ.wipe vs).sl.set v none).length = _; rw [List.length_set, Env.wipe_len γ vs]
theorem Env.wipe_none (γ : Env) {i : Nat} {r : Rf} : ∀ {vs : List Nat}, (γ.wipe vs).sl[i]? = some (some r) → i ∉ vs
  | [], _ => by simp
  | v :: vs, h => by
    have h : ((γ.wipe vs).sl.set v none)[i]? = some (some r) := h
    by_cases e : v = i
    · subst e
      rcases Nat.lt_or_ge v (γ.wipe vs).sl.length with z | z
      · rw [List.getElem?_set_self z] at h; cases h
      · rw [List.getElem?_eq_none (by simpa using z)] at h; cases h
    · rw [List.getElem?_set_ne e] at h
      have := Env.wipe_none γ h
      exact fun hm => (List.mem_cons.mp hm).elim (fun z => e z.symm) this
theorem wipe_wipe (σ : L2.St) : ∀ vs : List Nat, wipe (wipe σ vs) vs = wipe σ vs := fun vs => by
  apply List.ext_getElem?
  intro j
  by_cases hm : j ∈ vs
  · have aux : ∀ (ws : List Nat) (τ : L2.St), j ∈ ws → (wipe τ ws)[j]? = if j < τ.length then some none else none := fun ws => by
      induction ws with
      | nil => intro τ h; cases h
      | cons w ws ih2 =>
        intro τ h
        show ((wipe τ ws).set w none)[j]? = _
        by_cases hw : j = w
        · subst hw
          by_cases hl : j < τ.length
          · rw [List.getElem?_set_self (by rw [wipe_length]; exact hl), if_pos hl]
          · rw [List.getElem?_eq_none (by rw [List.length_set, wipe_length]; omega), if_neg hl]
        · rw [List.getElem?_set_ne (Ne.symm hw)]
          exact ih2 τ ((List.mem_cons.mp h).elim (fun z => absurd z hw) fun z => z)
    rw [aux vs _ hm, aux vs _ hm, wipe_length]
  · rw [wipe_out hm]
/-- the slots that are told nothing of may hold anything -/
theorem StR.rewipe {as : List Addr} {γ : Env} {σ σ' : L2.St} {G H : Hp} {vs : List Nat} (S : StR K B as γ σ G H) (h : L2.wipe σ' vs = L2.wipe σ vs) (hn : ∀ (i : Nat) (r : Rf), γ.sl[i]? = some (some r) → i ∉ vs) : StR K B as γ σ' G H := by
  refine S.slots ?_ fun i r e => ?_
  · have := congrArg List.length h
    rw [wipe_length, wipe_length] at this
    exact this
  · have e2 : (L2.wipe σ' vs)[i]? = (L2.wipe σ vs)[i]? := by rw [h]
    rw [wipe_out (hn i r e), wipe_out (hn i r e)] at e2
    exact e2
def noX : XQ := fun _ _ => False
theorem kxno {K : PySem.W.Frag} {B : Bs} {as : List Addr} {σ : L2.St} {G : Hp} {E : XK} : KontX K B as σ G E noX := fun _ _ _ _ _ _ _ _ _ _ h => h.elim
def appQ (k : Nat) (t : T) (γ : Env) (Q : Env → Prop) : Prop := match nth γ.mem k with
  | some (.mu (.lst ts)) => ts.length < sizeLine ∧ Q (γ.put k (.mu (.lst (ts ++ [t]))))
  | _ => False
structure LcI (src : Src) (γ1 : Env) (vs : List Nat) (step : T → Env → (Env → Prop) → Prop) (Q : RQ) : Prop where
  ex : ∃ I : Nat → Env → Prop, (∃ γ2, Le (γ1.mem.length + 1) ((γ1.push (.mu (.lst []))).wipe vs) γ2 ∧ I 0 γ2) ∧ (∀ i γ2, I i γ2 → src.on γ2) ∧
    (∀ i t γ2, src.ts[i]? = some t → I i γ2 → step t (γ2.wipe vs) fun γ4 => ∃ γ5, Le (γ1.mem.length + 1) (γ4.wipe vs) γ5 ∧ I (i + 1) γ5) ∧ ∀ γ2, I src.ts.length γ2 → Q (.ref γ1.mem.length) γ2
def vLc (wi : Env → (Src → Env → Prop) → XQ → Prop) (wg : Rf → Env → (Env → Prop) → XQ → Prop) (wt : Env → (Bool → Env → Prop) → XQ → Prop) (we : VW) (vs : List Nat) : VW := fun γ Q X => wi γ (fun src γ1 =>
  LcI src γ1 vs (fun t γ2 N => wg (.val t) γ2 (fun γ3 => wt γ3 (fun c γ4 => br c (we γ4 (fun r γ5 => toT r γ5 fun t' γ6 => appQ γ1.mem.length t' γ6 N) noX) (N γ4)) noX) noX) Q) X
def vYes : Env → (Bool → Env → Prop) → XQ → Prop := fun γ Q _ => Q true γ
instance : VT K B E tYes vYes := ⟨fun {as γ σ G H Q Qv Xv} S h k _ => k true γ as true G H (List.prefix_refl _) (Same.refl _) S rfl h⟩
theorem app_ok {as : List Addr} {γ : Env} {σ : L2.St} {G H : Hp} {k : Nat} {a : Addr} {t : T} {v : V} {Q : Env → Prop} (S : StR K B as γ σ G H) (ea : as[k]? = some a) (rp : Rp K G v t) (h : appQ k t γ Q) :
    ∃ acc, H a = some (.lst acc) ∧ acc.length < sizeLine ∧ ∃ γ', StR K B as γ' σ G (L2.upd H a (.lst (acc ++ [v]))) ∧ Q γ' := by
  unfold appQ at h
  rw [nth_eq] at h
  split at h
  · rename_i ts e
    obtain ⟨_, acc, hacc, rpa⟩ := S.mem k a _ ea e
    exact ⟨acc, hacc, by rw [rpa.length]; exact h.1, _, S.write (t := .lst (ts ++ [t])) e ea ⟨_, upd_same, rpa.snoc rp⟩, h.2⟩
  · exact h.elim
instance {wi : TI} {g : TG} {tt : TT} {te : TE} {vs is : List Nat} {vi : Env → (Src → Env → Prop) → XQ → Prop} {vg : Rf → Env → (Env → Prop) → XQ → Prop} {vt : Env → (Bool → Env → Prop) → XQ → Prop} {ve : VW} [hi : VI K B E wi vi] [hg : VG K B E g vg is] [ht : VT K B E tt vt] [he : VE K B E te ve] [hs : SubL is vs] :
    VE K B E (tLc wi g tt te vs) (vLc vi vg vt ve vs) where
  run := fun {as γ σ G H Q Qv Xv} S h k kx => by
    refine hi.run S h (fun src γ1 as1 G1 H1 J p1 g1 S1 ok q1 => ?_) kx
    intro Da hD
    obtain ⟨⟨I, ⟨γ0, le0, i0⟩, on, step, done⟩⟩ := q1
    have SD := (S1.alloc (t := .lst []) (o := .lst []) hD ⟨[], upd_same, .nil⟩)
    have lD : (as1 ++ [Da]).length = γ1.mem.length + 1 := by rw [List.length_append, S1.mlen]; rfl
    have aD : (as1 ++ [Da])[γ1.mem.length]? = some Da := by rw [← S1.mlen, List.getElem?_append_right (Nat.le_refl _), Nat.sub_self]; rfl
    obtain ⟨as0, G0, pp0, gg0, SS0⟩ := StR.le le0 (SD.wipe vs) (List.prefix_refl _) lD
    refine ⟨fun i m H' => m = src.ts.length - i ∧ i ≤ src.ts.length ∧ ∃ as' γ' G', as1 ++ [Da] <+: as' ∧ Same G1 G' ∧ StR K B as' γ' σ G' H' ∧ I i γ', ⟨_, rfl, Nat.zero_le _, as0, γ0, G0, pp0, gg0, SS0, i0⟩, ?_⟩
    rintro i m H' ⟨rfl, hi', as', γ', G', p', g', S', inv⟩
    have pq : as1 <+: as' := (List.prefix_append _ _).trans p'
    obtain ⟨go, stop, yld⟩ := ok pq g' S' (on i γ' inv)
    by_cases hlt : i < src.ts.length
    · refine .inr ⟨go i hlt, fun H'' => i + 1 ≤ src.ts.length ∧ ∃ as'' γ'' G'', as1 ++ [Da] <+: as'' ∧ Same G1 G'' ∧ StR K B as'' γ'' σ G'' H'' ∧ I (i + 1) γ'', fun H'' q => ⟨_, by omega, rfl, q.1, q.2⟩, fun x H'' hy => ?_⟩
      obtain ⟨G2, t, et, g2, S2, rp⟩ := yld i x H'' hlt hy
      have S2' : StR K B as' (γ'.wipe vs) (L2.wipe σ vs) G2 H'' := (S2.wipe vs).rewipe (vs := vs) (wipe_wipe σ vs) fun i r e => Env.wipe_none γ' e
      refine hg.run S2' (r := .val t) rp (step i t γ' et inv) (fun γ3 as3 σ3 G3 H3 p3 g3 S3 w3 q3 => ?_) kxno
      have ws : L2.wipe σ3 vs = L2.wipe σ vs := (w3 vs hs.h).trans (wipe_wipe σ vs)
      refine ⟨ws, ht.run S3 q3 (fun b γ4 as4 b' G4 H4 p4 g4 S4 e q4 => ?_) kxno⟩
      cases e
      have gG : Same G1 G4 := (g'.trans g2).trans (g3.trans g4)
      have pP : as1 ++ [Da] <+: as4 := p'.trans (p3.trans p4)
      have fin : ∀ {γ5 : Env} {as5 : List Addr} {G5 H5 : Hp}, Same G1 G5 → as1 ++ [Da] <+: as5 → StR K B as5 γ5 σ3 G5 H5 → (∃ γ6, Le (γ1.mem.length + 1) (γ5.wipe vs) γ6 ∧ I (i + 1) γ6) → i + 1 ≤ src.ts.length ∧ ∃ as'' γ'' G'', as1 ++ [Da] <+: as'' ∧ Same G1 G'' ∧ StR K B as'' γ'' σ G'' H5 ∧ I (i + 1) γ'' := by
        rintro γ5 as5 G5 H5 gg pp S5 ⟨γ6, le6, i6⟩
        have S6 : StR K B as5 (γ5.wipe vs) σ G5 H5 := (S5.wipe vs).rewipe (vs := vs) ws.symm fun i r e => Env.wipe_none γ5 e
        obtain ⟨as7, G7, p7, g7, S7⟩ := StR.le le6 S6 pp lD
        exact ⟨hlt, as7, γ6, G7, p7, gg.trans g7, S7, i6⟩
      cases b with
      | false => exact fin gG pP S4 q4
      | true =>
        refine he.run S4 q4 (fun r γ5 as5 v G5 H5 p5 g5 S5 rr5 q5 => ?_) kxno
        obtain ⟨t', γ6, G6, g6, S6, rp6, q6⟩ := toT_ok S5 rr5 q5
        have pp : as1 ++ [Da] <+: as5 := pP.trans p5
        obtain ⟨acc, e1, e2, γ7, S7, q7⟩ := app_ok S6 (pre_get pp aD) rp6 q6
        exact ⟨acc, e1, e2, fin (gG.trans (g5.trans g6)) pp S7 q7⟩
    · have e : i = src.ts.length := by omega
      subst e
      refine .inl ⟨stop, k (.ref γ1.mem.length) _ _ _ _ _ (p1.trans pq) (g1.trans g') S' ⟨Da, pre_get p' aD, rfl⟩ (done γ' inv)⟩
end
end VL
set_option Elab.async false
set_option linter.all false
set_option maxRecDepth 100000
set_option maxHeartbeats 4000000
/-! promises over values: defs, calls -/
namespace VL
open PySem PySem.Spec PyProof.Rows L2 XR
/-- what a def gives: a settled value, a new open object -/
inductive Rt where
  | val (t : T) | new (t : T)
abbrev VSp := List T → (Rt → List T → Prop) → (VErr → List T → Prop) → Prop
def ioA : List Bool → List V → List Addr
  | true :: ks, .ref a :: vs => a :: ioA ks vs
  | _ :: ks, _ :: vs => ioA ks vs
  | _, _ => []
inductive ArgsR (K : PySem.W.Frag) (G H : Hp) : List Bool → List V → List T → Prop
  | nil : ArgsR K G H [] [] []
  | val {ks : List Bool} {vs : List V} {ts : List T} {v : V} {t : T} : Rp K G v t → ArgsR K G H ks vs ts → ArgsR K G H (false :: ks) (v :: vs) (t :: ts)
  | io {ks : List Bool} {vs : List V} {ts : List T} {a : Addr} {t : T} : G a = none → MutR K G H a t → ArgsR K G H ks vs ts → ArgsR K G H (true :: ks) (.ref a :: vs) (t :: ts)
structure Fin (K : PySem.W.Frag) (G H : Hp) (io : List Addr) (G' H' : Hp) (outs : List T) : Prop where
  gg : Same G G'
  vw : Same G' H'
  hh : ∀ a o, H a = some o → a ∉ io → H' a = some o
  out : ∀ a, H a ≠ none → G a = none → G' a = none
  outs : Paired (fun a t => MutR K G' H' a t) io outs
def RtR (K : PySem.W.Frag) (H G' H' : Hp) : Rt → V → Prop
  | .val t, v => Rp K G' v t
  | .new t, v => ∃ a, v = .ref a ∧ H a = none ∧ G' a = none ∧ MutR K G' H' a t
/-- the promise of a def: ks tells which parameters it changes -/
def vsp (K : PySem.W.Frag) (ks : List Bool) (fv : VSp) : Sp := fun vs H Q E => ∃ (G : Hp) (ts : List T) (Qv : Rt → List T → Prop) (Xv : VErr → List T → Prop),
  Same G H ∧ ArgsR K G H ks vs ts ∧ (ioA ks vs).Nodup ∧ fv ts Qv Xv ∧
  (∀ (rt : Rt) (outs : List T) (v : V) (G' H' : Hp), Fin K G H (ioA ks vs) G' H' outs → RtR K H G' H' rt v → Qv rt outs → Q v H') ∧
  (∀ (e : VErr) (outs : List T) (d : Option Addr) (G' H' : Hp), Fin K G H (ioA ks vs) G' H' outs → ErrF K G' d e.2 → Xv e outs → E (.ref e.1) d H')
theorem ArgsR.len {K : PySem.W.Frag} {G H : Hp} {ks : List Bool} {vs : List V} {ts : List T} (h : ArgsR K G H ks vs ts) : vs.length = ks.length := by
  induction h with
  | nil => rfl
  | val _ _ ih => simp [ih]
  | io _ _ _ ih => simp [ih]
/-! ### at the entry of a def -/
def slots0 : List Bool → List T → Nat → List (Option Rf)
  | true :: ks, _ :: ts, n => some (.ref n) :: slots0 ks ts (n + 1)
  | false :: ks, t :: ts, n => some (.val t) :: slots0 ks ts n
  | _, _, _ => []
def mem0 : List Bool → List T → List MO
  | true :: ks, t :: ts => .mu t :: mem0 ks ts
  | false :: ks, _ :: ts => mem0 ks ts
  | _, _ => []
def nones : Nat → List (Option Rf)
  | 0 => []
  | n + 1 => none :: nones n
theorem nones_len : ∀ n, (nones n).length = n
  | 0 => rfl
  | n + 1 => congrArg (· + 1) (nones_len n)
theorem nones_at : ∀ (n i : Nat) (r : Rf), (nones n)[i]? ≠ some (some r)
  | 0, i, r => by simp [nones]
  | n + 1, 0, r => by simp [nones]
  | n + 1, i + 1, r => nones_at n i r
def env0 (ks : List Bool) (ts : List T) (more : Nat) : Env := ⟨(mem0 ks ts).length, slots0 ks ts 0 ++ nones more, mem0 ks ts⟩
section
variable {K : PySem.W.Frag} {G H : Hp}
theorem mem0_ok : ∀ {ks : List Bool} {vs : List V} {ts : List T}, ArgsR K G H ks vs ts → (ioA ks vs).length = (mem0 ks ts).length ∧ ∀ (k : Nat) (a : Addr) (m : MO), (ioA ks vs)[k]? = some a → (mem0 ks ts)[k]? = some m → MemR K G H a m
  | _, _, _, .nil => ⟨rfl, fun k a m e _ => by cases e⟩
  | _, _, _, .val (v := v) a b => by
    obtain ⟨h1, h2⟩ := mem0_ok b
    cases v <;> exact ⟨h1, h2⟩
  | _, _, _, .io g a b => by
    obtain ⟨h1, h2⟩ := mem0_ok b
    refine ⟨congrArg (· + 1) h1, fun k c m e1 e2 => ?_⟩
    cases k with
    | zero => cases e1; cases e2; exact ⟨g, a⟩
    | succ k => exact h2 k c m e1 e2
theorem slots0_ok {ex : Addr × Value × Option Addr} : ∀ {ks : List Bool} {vs : List V} {ts : List T} (pre : List Addr), ArgsR K G H ks vs ts → (slots0 ks ts pre.length).length = vs.length ∧
    ∀ (i : Nat) (r : Rf), (slots0 ks ts pre.length)[i]? = some (some r) → ∃ v, vs[i]? = some v ∧ RR K ex (pre ++ ioA ks vs) G r v
  | _, _, _, pre, .nil => ⟨rfl, fun i r e => by cases e⟩
  | _, _, _, pre, .val (ks := ks) (vs := vs) (v := v) a b => by
    obtain ⟨h1, h2⟩ := slots0_ok (ex := ex) pre b
    have e0 : ioA (false :: ks) (v :: vs) = ioA ks vs := by cases v <;> rfl
    refine ⟨congrArg (· + 1) h1, fun i r e => ?_⟩
    rw [e0]
    cases i with
    | zero => cases e; exact ⟨_, rfl, a⟩
    | succ i => exact h2 i r e
  | _, _, _, pre, .io (ks := ks) (vs := vs) (a := p) g a b => by
    obtain ⟨h1, h2⟩ := slots0_ok (ex := ex) (pre ++ [p]) b
    rw [List.length_append, List.length_singleton] at h1 h2
    refine ⟨congrArg (· + 1) h1, fun i r e => ?_⟩
    have e0 : pre ++ ioA (true :: ks) (V.ref p :: vs) = (pre ++ [p]) ++ ioA ks vs := by
      show pre ++ (p :: ioA ks vs) = _
      simp
    cases i with
    | zero =>
      cases e
      refine ⟨_, rfl, p, ?_, rfl⟩
      show (pre ++ p :: ioA ks vs)[pre.length]? = some p
      rw [List.getElem?_append_right (Nat.le_refl _), Nat.sub_self]; rfl
    | succ i =>
      obtain ⟨v, e1, e2⟩ := h2 i r e
      exact ⟨v, e1, by rw [e0]; exact e2⟩
end
section
variable {K : PySem.W.Frag} {G H : Hp} {ks : List Bool} {vs : List V} {ts : List T} {N : List Str}
theorem start_ok (vw : Same G H) (ar : ArgsR K G H ks vs ts) (nd : (ioA ks vs).Nodup) (hN : vs.length ≤ N.length) : StR K ⟨G, H, ioA ks vs, (0, .none, none)⟩ (ioA ks vs) (env0 ks ts (N.length - vs.length)) (L2.start N vs) G H := by
  obtain ⟨m1, m2⟩ := mem0_ok ar
  obtain ⟨s1, s2⟩ := slots0_ok (ex := ((0 : Addr), Value.none, (none : Option Addr))) [] ar
  refine ⟨vw, Same.refl _, fun a _ h => h, fun a o e _ => e, m1.symm, List.prefix_refl _, m1, nd, fun k a e hk => ?_, m2, ?_, fun i r e => ?_⟩
  · have hl : k < (ioA ks vs).length := (List.getElem?_eq_some_iff.mp e).1
    have hk : (ioA ks vs).length ≤ k := hk
    omega
  · show (L2.start N vs).length = (slots0 ks ts 0 ++ nones _).length
    unfold L2.start
    rw [List.length_append, List.length_map, List.length_replicate, List.length_append, nones_len, show (slots0 ks ts 0).length = vs.length from s1]
  · have e : (slots0 ks ts 0 ++ nones (N.length - vs.length))[i]? = some (some r) := e
    have s1 : (slots0 ks ts 0).length = vs.length := s1
    rcases Nat.lt_or_ge i vs.length with hi | hi
    · rw [List.getElem?_append_left (by rw [s1]; exact hi)] at e
      obtain ⟨v, e1, e2⟩ := s2 i r e
      refine ⟨v, ?_, by simpa using e2⟩
      unfold L2.start
      rw [List.getElem?_append_left (by rw [List.length_map]; exact hi), List.getElem?_map, e1]
      rfl
    · rw [List.getElem?_append_right (by rw [s1]; exact hi)] at e
      exact absurd e (nones_at _ _ _)
end
/-! ### at its end -/
def outs : Nat → List MO → (List T → Prop) → Prop
  | 0, _, Q => Q []
  | n + 1, .mu t :: r, Q => outs n r fun ts => Q (t :: ts)
  | _ + 1, _, _ => False
def outsQ (γ : Env) (Q : List T → Prop) : Prop := outs γ.nio γ.mem Q
def finQ (Qv : Rt → List T → Prop) : RQ := fun r γ => match r with
  | .val t => outsQ γ fun o => Qv (.val t) o
  | .ref k => match nth γ.mem k with
    | some (.fz t) => outsQ γ fun o => Qv (.val t) o
    | some (.mu t) => match Nat.blt k γ.nio with
      | true => False
      | false => outsQ γ fun o => Qv (.new t) o
    | none => False
  | .err _ _ => False
def endsV (Qv : Rt → List T → Prop) : VEnds := ⟨fun γ => outsQ γ fun o => Qv (.val .non) o, finQ Qv, fun _ => False, fun _ => False, noX⟩
def endsX (Qv : Rt → List T → Prop) (Xv : VErr → List T → Prop) : VEnds := ⟨fun γ => outsQ γ fun o => Qv (.val .non) o, finQ Qv, fun _ => False, fun _ => False, fun e γ => outsQ γ fun o => Xv e o⟩
section
variable {K : PySem.W.Frag} {G H : Hp} {ks : List Bool} {vs : List V} {ts : List T} {as : List Addr} {γ : Env} {σ : L2.St} {G' H' : Hp}
theorem outs_ok {K : PySem.W.Frag} {G' H' : Hp} : ∀ {io : List Addr} {mem : List MO} {Q : List T → Prop}, (∀ (k : Nat) (a : Addr) (m : MO), io[k]? = some a → mem[k]? = some m → MemR K G' H' a m) → outs io.length mem Q → ∃ o, Paired (fun a t => MutR K G' H' a t) io o ∧ Q o
  | [], mem, Q, hm, h => ⟨[], .nil, h⟩
  | a :: io, [], Q, hm, h => by cases h
  | a :: io, .fz t :: mem, Q, hm, h => by cases h
  | a :: io, .mu t :: mem, Q, hm, h => by
    obtain ⟨o, p, q⟩ := outs_ok (io := io) (mem := mem) (fun k b m e1 e2 => hm (k + 1) b m e1 e2) h
    exact ⟨t :: o, .cons (hm 0 a _ rfl rfl).2 p, q⟩
theorem fin_of {io : List Addr} {ex : Addr × Value × Option Addr} {Q : List T → Prop} (S : StR K ⟨G, H, io, ex⟩ as γ σ G' H') (h : outsQ γ Q) : ∃ o, Fin K G H io G' H' o ∧ Q o := by
  unfold outsQ at h
  rw [S.nio] at h
  obtain ⟨o, p, q⟩ := outs_ok (K := K) (G' := G') (H' := H') (io := io) (mem := γ.mem) (fun k a m e1 e2 => S.mem k a m (pre_get S.pre e1) e2) h
  exact ⟨o, ⟨S.gg, S.vw, fun a o e n => S.hh a o e n, S.out, p⟩, q⟩
theorem rt_of {io : List Addr} {ex : Addr × Value × Option Addr} {Qv : Rt → List T → Prop} {r : Rf} {v : V} (S : StR K ⟨G, H, io, ex⟩ as γ σ G' H') (rr : RR K ex as G' r v) (h : finQ Qv r γ) : ∃ rt o, Fin K G H io G' H' o ∧ RtR K H G' H' rt v ∧ Qv rt o := by
  unfold finQ at h
  cases r with
  | val t =>
    obtain ⟨o, f, q⟩ := fin_of S h
    exact ⟨.val t, o, f, rr, q⟩
  | ref k =>
    obtain ⟨a, ea, rfl⟩ := rr
    simp only [nth_eq] at h
    split at h
    · rename_i t e
      obtain ⟨o, f, q⟩ := fin_of S h
      exact ⟨.val t, o, f, (S.mem k a _ ea e).2, q⟩
    · rename_i t e
      split at h
      · exact h.elim
      · rename_i hb
        have hk : io.length ≤ k := by
          have hn : γ.nio = io.length := S.nio
          rcases Nat.lt_or_ge k γ.nio with z | z
          · have : Nat.blt k γ.nio = true := by simpa [Nat.blt_eq] using z
            rw [this] at hb; cases hb
          · omega
        obtain ⟨o, f, q⟩ := fin_of S h
        obtain ⟨g1, g2⟩ := S.mem k a _ ea e
        exact ⟨.new t, o, f, ⟨a, rfl, S.fresh k a ea hk, g1, g2⟩, q⟩
    · exact h.elim
  | err D gs => exact h.elim
end
section
variable {P : Program} {w : World} {K : PySem.W.Frag} {mg : Str → Option Value} {base : Heap}
theorem okV {x qual : Str} {st : Stmt} {f : Addr} {fd : FuncData} {N ps : List Str} {k : Nat} {ks : List Bool} {fv : VSp} (F : Fun K x qual st f fd) (S : FnScope N ps (defScope st)) (hk : ks.length = ps.length) (hN : ps.length ≤ N.length)
    (body : ∀ (cdv : Value) (A : Around) (outer : List PySem.Env) (s : Shared) (H : Hp) (E : XK), Room k (A.deeper (envOfC qual (defScope st) s.heap.objs.size f cdv)) →
      ∃ t, PSs (cxOf CX0 P w K mg base N qual (defScope st) f cdv A outer s H E).nox (defBody st) t ∧ ∃ wv, (∀ B : Bs, VS K B (fun _ => E) t wv) ∧ ∀ (ts : List T) (Qv : Rt → List T → Prop) (Xv : VErr → List T → Prop), fv ts Qv Xv → wv (env0 ks ts (N.length - ps.length)) (endsV Qv)) :
    FnOk P w K mg base CX0 (k + 1) f fd ps (vsp K ks fv) := by
  refine F.ok S (fun vs H Q E h => ?_) fun cdv A outer s H vs Q E hr h => ?_
  · obtain ⟨G, ts, Qv, Xv, _, ar, _⟩ := h
    exact ar.len.trans hk
  · obtain ⟨t, hp, wv, hv, go⟩ := body cdv A outer s H E hr
    obtain ⟨G, ts, Qv, Xv, vw, ar, nd, hf, kr, kx⟩ := h
    refine ⟨t, hp, ?_⟩
    have hl : vs.length = ps.length := ar.len.trans hk
    have S0 := start_ok (N := N) vw ar nd (by omega)
    have q := go ts Qv Xv hf
    rw [← hl] at q
    refine (hv _).run S0 q ⟨fun γ' as' σ' G' H' _ _ S' z => ?_, fun _ _ _ _ _ _ _ _ z => z.elim, fun _ _ _ _ _ _ _ _ z => z.elim, fun σ' r γ' as' v G' H' _ _ S' rr z => ?_, fun σ' => kxno⟩
    · obtain ⟨o, f, z⟩ := fin_of S' z
      exact kr (.val .non) _ _ _ _ f Rp.non z
    · obtain ⟨rt, o, f, rr, z⟩ := rt_of S' rr z
      exact kr _ _ _ _ _ f rr z
theorem okVX {x qual : Str} {st : Stmt} {f : Addr} {fd : FuncData} {N ps : List Str} {k : Nat} {ks : List Bool} {fv : VSp} (F : Fun K x qual st f fd) (S : FnScope N ps (defScope st)) (hk : ks.length = ps.length) (hN : ps.length ≤ N.length)
    (body : ∀ (cdv : Value) (A : Around) (outer : List PySem.Env) (s : Shared) (H : Hp) (E : XK), Room k (A.deeper (envOfC qual (defScope st) s.heap.objs.size f cdv)) →
      ∃ t, PSs (cxOf (L2.CX P w) P w K mg base N qual (defScope st) f cdv A outer s H E) (defBody st) t ∧ ∃ wv, (∀ B : Bs, VS K B (fun _ => E) t wv) ∧ ∀ (ts : List T) (Qv : Rt → List T → Prop) (Xv : VErr → List T → Prop), fv ts Qv Xv → wv (env0 ks ts (N.length - ps.length)) (endsX Qv Xv)) :
    FnOk P w K mg base (L2.CX P w) (k + 1) f fd ps (vsp K ks fv) := by
  refine F.okX S (fun vs H Q E h => ?_) fun cdv A outer s H vs Q E hr h => ?_
  · obtain ⟨G, ts, Qv, Xv, _, ar, _⟩ := h
    exact ar.len.trans hk
  · obtain ⟨t, hp, wv, hv, go⟩ := body cdv A outer s H E hr
    obtain ⟨G, ts, Qv, Xv, vw, ar, nd, hf, kr, kx⟩ := h
    refine ⟨t, hp, ?_⟩
    have hl : vs.length = ps.length := ar.len.trans hk
    have S0 := start_ok (N := N) vw ar nd (by omega)
    have q := go ts Qv Xv hf
    rw [← hl] at q
    refine (hv _).run S0 q ⟨fun γ' as' σ' G' H' _ _ S' z => ?_, fun _ _ _ _ _ _ _ _ z => z.elim, fun _ _ _ _ _ _ _ _ z => z.elim, fun σ' r γ' as' v G' H' _ _ S' rr z => ?_, fun σ' e γ' as' d G' H' _ _ S' er z => ?_⟩
    · obtain ⟨o, f, z⟩ := fin_of S' z
      exact kr (.val .non) _ _ _ _ f Rp.non z
    · obtain ⟨rt, o, f, rr, z⟩ := rt_of S' rr z
      exact kr _ _ _ _ _ f rr z
    · obtain ⟨o, f, z⟩ := fin_of S' z
      exact kx e _ d G' H' f er z
end
/-! ### a call -/
inductive Ag where
  | v (t : T) | m (k : Nat)
def settle : List Bool → List Rf → Env → (List Ag → Env → Prop) → Prop
  | [], [], γ, Q => Q [] γ
  | false :: ks, r :: rs, γ, Q => toT r γ fun t γ1 => settle ks rs γ1 fun as γ2 => Q (.v t :: as) γ2
  | true :: ks, .ref k :: rs, γ, Q => settle ks rs γ fun as γ2 => Q (.m k :: as) γ2
  | _, _, _, _ => False
def agT : List Ag → Env → (List T → List Nat → Prop) → Prop
  | [], _, Q => Q [] []
  | .v t :: r, γ, Q => agT r γ fun ts kk => Q (t :: ts) kk
  | .m k :: r, γ, Q => match nth γ.mem k with
    | some (.mu t) => agT r γ fun ts kk => Q (t :: ts) (k :: kk)
    | _ => False
def putM : List Nat → List T → Env → (Env → Prop) → Prop
  | [], [], γ, Q => Q γ
  | k :: kk, t :: ts, γ, Q => putM kk ts (γ.put k (.mu t)) Q
  | _, _, _, _ => False
def retQ (rt : Rt) (γ : Env) (Q : RQ) : Prop := match rt with
  | .val t => Q (.val t) γ
  | .new t => γ.new t Q
def ndB : List Nat → Bool
  | [] => true
  | k :: r => match r.contains k with
    | true => false
    | false => ndB r
theorem ndB_ok : ∀ {kk : List Nat}, ndB kk = true → kk.Nodup
  | [], _ => .nil
  | k :: r, h => by
    unfold ndB at h
    split at h
    · cases h
    · rename_i e
      exact List.nodup_cons.mpr ⟨fun hm => by simp [hm] at e, ndB_ok h⟩
def callQ (ks : List Bool) (fv : VSp) (rs : List Rf) (γ : Env) (Q : RQ) (X : XQ) : Prop :=
  settle ks rs γ fun ags γ1 => agT ags γ1 fun ts kk => match ndB kk with
    | true => fv ts (fun rt o => putM kk o γ1 fun γ2 => retQ rt γ2 Q) (fun e o => putM kk o γ1 fun γ2 => X e γ2)
    | false => False
section
variable {K : PySem.W.Frag} {B : Bs} {as : List Addr} {σ : L2.St} {H : Hp}
def AgR (K : PySem.W.Frag) (as : List Addr) (G : Hp) : Ag → V → Prop
  | .v t, v => Rp K G v t
  | .m k, v => ∃ a, as[k]? = some a ∧ v = .ref a
theorem AgR.mono {G G' : Hp} (g : Same G G') : ∀ {ags : List Ag} {vs : List V}, Paired (AgR K as G) ags vs → Paired (AgR K as G') ags vs
  | _, _, .nil => .nil
  | .v t :: _, _, .cons a b => .cons (Rp.mono g a) (AgR.mono g b)
  | .m k :: _, _, .cons a b => .cons a (AgR.mono g b)
theorem settle_ok : ∀ {ks : List Bool} {rs : List Rf} {vs : List V} {γ : Env} {G : Hp} {Q : List Ag → Env → Prop}, StR K B as γ σ G H → RRs K B.ex as G rs vs → settle ks rs γ Q → ∃ ags γ' G', Same G G' ∧ StR K B as γ' σ G' H ∧ Paired (AgR K as G') ags vs ∧ ags.map (fun g => match g with | .v _ => false | .m _ => true) = ks ∧ Q ags γ'
  | [], _, _, γ, G, Q, S, .nil, h => ⟨[], γ, G, Same.refl _, S, .nil, rfl, h⟩
  | [], _, _, γ, G, Q, S, .cons _ _, h => by cases h
  | false :: ks, _, _, γ, G, Q, S, .cons a b, h => by
    obtain ⟨t, γ1, G1, g1, S1, rp, h⟩ := toT_ok S a h
    obtain ⟨ags, γ2, G2, g2, S2, p, e, q⟩ := settle_ok S1 (RRs.mono (List.prefix_refl _) g1 b) h
    exact ⟨.v t :: ags, γ2, G2, g1.trans g2, S2, .cons (rp.mono g2) p, by rw [List.map_cons, e], q⟩
  | true :: ks, .ref k :: _, _, γ, G, Q, S, .cons a b, h => by
    obtain ⟨ags, γ2, G2, g2, S2, p, e, q⟩ := settle_ok S b h
    exact ⟨.m k :: ags, γ2, G2, g2, S2, .cons a p, by rw [List.map_cons, e], q⟩
  | false :: _, _, _, _, _, _, _, .nil, h => by cases h
  | true :: _, _, _, _, _, _, _, .nil, h => by cases h
  | true :: _, .val _ :: _, _, _, _, _, _, .cons _ _, h => by cases h
  | true :: _, .err _ _ :: _, _, _, _, _, _, .cons _ _, h => by cases h
theorem agT_ok {γ : Env} {G : Hp} (S : StR K B as γ σ G H) : ∀ {ags : List Ag} {vs : List V} {Q : List T → List Nat → Prop}, Paired (AgR K as G) ags vs → agT ags γ Q → ∃ ts kk, ArgsR K G H (ags.map (fun g => match g with | .v _ => false | .m _ => true)) vs ts ∧
    Paired (fun (k : Nat) (a : Addr) => as[k]? = some a ∧ ∃ t, γ.mem[k]? = some (.mu t)) kk (ioA (ags.map (fun g => match g with | .v _ => false | .m _ => true)) vs) ∧ Q ts kk
  | [], _, Q, .nil, h => ⟨[], [], .nil, .nil, h⟩
  | .v t :: ags, v :: vs, Q, .cons a b, h => by
    obtain ⟨ts, kk, h1, h2, h3⟩ := agT_ok S b h
    refine ⟨t :: ts, kk, .val a h1, ?_, h3⟩
    cases v <;> exact h2
  | .m k :: ags, _, Q, .cons a b, h => by
    obtain ⟨p, ea, rfl⟩ := a
    unfold agT at h
    rw [nth_eq] at h
    split at h
    · rename_i t e
      obtain ⟨ts, kk, h1, h2, h3⟩ := agT_ok S b h
      obtain ⟨g1, g2⟩ := S.mem k p _ ea e
      exact ⟨t :: ts, k :: kk, .io g1 g2 h1, .cons ⟨ea, t, e⟩ h2, h3⟩
    · exact h.elim
def putAll : List Nat → List T → Env → Env
  | k :: kk, t :: ts, γ => putAll kk ts (γ.put k (.mu t))
  | _, _, γ => γ
theorem putM_all : ∀ (kk : List Nat) {ts : List T} {γ : Env} {Q : Env → Prop}, putM kk ts γ Q → Q (putAll kk ts γ)
  | [], [], _, _, h => h
  | _ :: kk, _ :: _, _, _, h => putM_all kk h
  | [], _ :: _, _, _, h => by cases h
  | _ :: _, [], _, _, h => by cases h
theorem putAll_sl : ∀ (kk : List Nat) (ts : List T) (γ : Env), (putAll kk ts γ).sl = γ.sl ∧ (putAll kk ts γ).nio = γ.nio ∧ (putAll kk ts γ).mem.length = γ.mem.length
  | [], _, _ => ⟨rfl, rfl, rfl⟩
  | _ :: _, [], _ => ⟨rfl, rfl, rfl⟩
  | k :: kk, t :: ts, γ => by
    obtain ⟨h1, h2, h3⟩ := putAll_sl kk ts (γ.put k (.mu t))
    exact ⟨h1, h2, h3.trans (by show (γ.mem.set _ _).length = _; simp)⟩
theorem putAll_at : ∀ (kk : List Nat) (ts : List T) (γ : Env) (j : Nat) (m : MO), kk.Nodup → kk.length = ts.length → (putAll kk ts γ).mem[j]? = some m → (j ∉ kk ∧ γ.mem[j]? = some m) ∨ ∃ (i : Nat) (t : T), kk[i]? = some j ∧ ts[i]? = some t ∧ m = .mu t
  | [], _, γ, j, m, _, _, e => .inl ⟨by simp, e⟩
  | _ :: _, [], γ, j, m, _, hl, e => by cases hl
  | k :: kk, t :: ts, γ, j, m, nd, hl, e => by
    obtain ⟨n1, n2⟩ := List.nodup_cons.mp nd
    rcases putAll_at kk ts (γ.put k (.mu t)) j m n2 (by simpa using hl) e with ⟨h1, h2⟩ | ⟨i, u, h1, h2, h3⟩
    · have h2 : (γ.mem.set k (.mu t))[j]? = some m := h2
      by_cases hj : j = k
      · subst hj
        have hlt : j < γ.mem.length := by
          rcases Nat.lt_or_ge j γ.mem.length with z | z
          · exact z
          · rw [List.getElem?_eq_none (by simpa using z)] at h2; cases h2
        rw [List.getElem?_set_self hlt] at h2
        cases h2
        exact .inr ⟨0, t, rfl, rfl, rfl⟩
      · rw [List.getElem?_set_ne (Ne.symm hj)] at h2
        exact .inl ⟨fun hm => (List.mem_cons.mp hm).elim hj h1, h2⟩
    · exact .inr ⟨i + 1, u, h1, h2, h3⟩
theorem paired_len {α β : Type} {F : α → β → Prop} : ∀ {xs : List α} {ys : List β}, Paired F xs ys → xs.length = ys.length
  | _, _, .nil => rfl
  | _, _, .cons _ t => congrArg (· + 1) (paired_len t)
theorem paired_get {α β : Type} {F : α → β → Prop} : ∀ {xs : List α} {ys : List β} {i : Nat} {x : α}, Paired F xs ys → xs[i]? = some x → ∃ y, ys[i]? = some y ∧ F x y
  | _, _, _, _, .nil, e => by cases e
  | _, _, 0, _, .cons a _, e => by cases e; exact ⟨_, rfl, a⟩
  | _, _, i + 1, _, .cons _ b, e => paired_get (i := i) b e
/-- behind the callee -/
theorem StR.called {γ : Env} {G G' H' : Hp} {io : List Addr} {kk : List Nat} {o : List T} (S : StR K B as γ σ G H) (pk : Paired (fun (k : Nat) (a : Addr) => as[k]? = some a ∧ ∃ t, γ.mem[k]? = some (.mu t)) kk io) (nd : kk.Nodup) (F : Fin K G H io G' H' o) : StR K B as (putAll kk o γ) σ G' H' := by
  obtain ⟨e1, e2, e3⟩ := putAll_sl kk o γ
  have hio : ∀ a ∈ io, ∃ k, as[k]? = some a := fun a ha => by
    obtain ⟨i, hi, e⟩ := List.getElem_of_mem ha
    have hk : i < kk.length := by rw [paired_len pk]; exact hi
    obtain ⟨y, hy, q, _⟩ := paired_get pk (List.getElem?_eq_getElem hk)
    rw [List.getElem?_eq_getElem hi, e] at hy
    cases hy
    exact ⟨_, q⟩
  have hl : kk.length = o.length := (paired_len pk).trans (paired_len F.outs)
  have known : ∀ (k : Nat) (a : Addr), as[k]? = some a → H a ≠ none := fun k a e => S.known e
  refine ⟨F.vw, S.gg.trans F.gg, fun a h1 h2 => F.out a ?_ (S.out a h1 h2), fun a u h1 h2 => F.hh a u (S.hh a u h1 h2) fun hm => ?_, e2.trans S.nio, S.pre, S.mlen.trans e3.symm, S.nd, S.fresh, fun j b m x1 x2 => ?_, S.slen.trans (by rw [e1]), fun i r x => ?_⟩
  · by_cases hm : a ∈ B.io
    · exact S.io_known hm
    · obtain ⟨u, hu⟩ := Option.ne_none_iff_exists'.mp h1
      rw [S.hh a u hu hm]; exact fun z => by cases z
  · obtain ⟨k, ek⟩ := hio a hm
    by_cases hk : k < B.io.length
    · refine h2 ?_
      obtain ⟨r, hr⟩ := S.pre
      rw [← hr, List.getElem?_append_left hk] at ek
      exact List.mem_of_getElem? ek
    · rw [S.fresh k a ek (by omega)] at h1; cases h1
  · rcases putAll_at kk o γ j m nd hl x2 with ⟨h1, h2⟩ | ⟨i, t, h1, h2, rfl⟩
    · have nb : b ∉ io := fun hm => by
        obtain ⟨i, hi, e⟩ := List.getElem_of_mem hm
        have hk : i < kk.length := by rw [paired_len pk]; exact hi
        obtain ⟨y, hy, q, _⟩ := paired_get pk (List.getElem?_eq_getElem hk)
        rw [List.getElem?_eq_getElem hi, e] at hy
        cases hy
        have : kk[i] = j := nodup_at S.nd q x1
        exact h1 (this ▸ List.getElem_mem hk)
      obtain ⟨u, hu⟩ := Option.ne_none_iff_exists'.mp (known j b x1)
      exact (S.mem j b m x1 h2).mono F.gg (by rw [hu]; exact F.hh b u hu nb) fun z => F.out b (known j b x1) z
    · obtain ⟨a, ha, q, t0, qt⟩ := paired_get pk h1
      have : a = b := by rw [q] at x1; exact Option.some.inj x1
      subst this
      have hi : i < io.length := (List.getElem?_eq_some_iff.mp ha).1
      obtain ⟨u, hu, mu⟩ := paired_get F.outs ha
      rw [h2] at hu
      cases hu
      exact ⟨F.out a (known j a x1) (S.mem j a _ x1 qt).1, mu⟩
  · rw [e1] at x
    obtain ⟨v, x1, x2⟩ := S.sl i r x
    exact ⟨v, x1, x2.mono (List.prefix_refl _) F.gg⟩
/-- an object that stands already is taken in -/
theorem StR.adopt {γ : Env} {G : Hp} {p : Addr} {t : T} (S : StR K B as γ σ G H) (h1 : B.H0 p = none) (h2 : p ∉ as) (h3 : G p = none) (q : MutR K G H p t) : StR K B (as ++ [p]) (γ.push (.mu t)) σ G H := by
  refine ⟨S.vw, S.gg, S.out, S.hh, S.nio, S.pre.trans (List.prefix_append _ _), by show (as ++ [p]).length = (γ.mem ++ [_]).length; simp [S.mlen], ?_, ?_, ?_, S.slen, fun i r e => ?_⟩
  · rw [List.nodup_append]
    exact ⟨S.nd, by simp, fun a ha b hb => by rw [List.mem_singleton.mp hb]; exact fun z => h2 (z ▸ ha)⟩
  · intro k a e hk
    rcases Nat.lt_trichotomy k as.length with hlt | rfl | hgt
    · rw [List.getElem?_append_left hlt] at e; exact S.fresh k a e hk
    · rw [List.getElem?_append_right (Nat.le_refl _), Nat.sub_self] at e
      obtain rfl : p = a := by simpa using e
      exact h1
    · rw [List.getElem?_eq_none (by simp; omega)] at e; cases e
  · intro k a m e1 e2
    rcases Nat.lt_trichotomy k as.length with hlt | rfl | hgt
    · rw [List.getElem?_append_left hlt] at e1
      have e2 : (γ.mem ++ [MO.mu t])[k]? = some m := e2
      rw [List.getElem?_append_left (by rw [← S.mlen]; exact hlt)] at e2
      exact S.mem k a m e1 e2
    · rw [List.getElem?_append_right (Nat.le_refl _), Nat.sub_self] at e1
      obtain rfl : p = a := by simpa using e1
      have e2 : (γ.mem ++ [MO.mu t])[as.length]? = some m := e2
      rw [S.mlen, List.getElem?_append_right (Nat.le_refl _), Nat.sub_self] at e2
      obtain rfl : MO.mu t = m := by simpa using e2
      exact ⟨h3, q⟩
    · rw [List.getElem?_eq_none (by simp; omega)] at e1; cases e1
  · obtain ⟨v, e1, e2⟩ := S.sl i r e
    exact ⟨v, e1, e2.mono (List.prefix_append _ _) (Same.refl _)⟩
/-- the callee's promise from the caller's side -/
theorem call_ok {ks : List Bool} {fv : VSp} {rs : List Rf} {vs : List V} {γ : Env} {G : Hp} {Q : VK} {E1 : XK} {Qv : RQ} {Xv : XQ} (S : StR K B as γ σ G H) (rr : RRs K B.ex as G rs vs) (h : callQ ks fv rs γ Qv Xv) (k : KontP K B as σ G (rR K B) Q Qv) (kx : KontX K B as σ G E1 Xv) : vsp K ks fv vs H Q E1 := by
  obtain ⟨ags, γ1, G1, g1, S1, p, e, h⟩ := settle_ok S rr h
  obtain ⟨ts, kk, ar, pk, h⟩ := agT_ok S1 p h
  rw [e] at ar pk
  split at h
  · rename_i nd
    have nd := ndB_ok nd
    refine ⟨G1, ts, _, _, S1.vw, ar, ?_, h, fun rt o v G' H' F r q => ?_, fun er o d G' H' F r q => ?_⟩
    · -- the open arguments are different objects
      rw [List.Nodup, List.pairwise_iff_getElem]
      intro i j hi0 hj0 hij e2
      have hl := paired_len pk
      have hi : i < kk.length := by omega
      have hj' : j < kk.length := by omega
      obtain ⟨a, ha, qa, _⟩ := paired_get pk (List.getElem?_eq_getElem hi)
      obtain ⟨b, hb, qb, _⟩ := paired_get pk (List.getElem?_eq_getElem hj')
      rw [List.getElem?_eq_getElem hi0] at ha
      rw [List.getElem?_eq_getElem hj0] at hb
      cases ha
      cases hb
      rw [e2] at qa
      have e3 : kk[i] = kk[j] := nodup_at S1.nd qa qb
      have e4 : i = j := (List.getElem_inj nd).mp e3
      omega
    · have S2 := S1.called pk nd F
      have q := putM_all _ q
      cases rt with
      | val t => exact k (.val t) _ _ _ _ _ (List.prefix_refl _) (g1.trans F.gg) S2 r q
      | new t =>
        obtain ⟨a, rfl, ha, hg, mu⟩ := r
        have S3 := S2.adopt (S1.new0 ha) (S1.newA ha) hg mu
        refine k (.ref (putAll kk o γ1).mem.length) _ _ _ _ _ (List.prefix_append _ _) (g1.trans F.gg) S3 ⟨a, ?_, rfl⟩ q
        rw [← S2.mlen, List.getElem?_append_right (Nat.le_refl _), Nat.sub_self]
        rfl
    · exact kx er _ _ d G' H' (List.prefix_refl _) (g1.trans F.gg) (S1.called pk nd F) r (putM_all _ q)
  · exact h.elim
end
end VL
set_option Elab.async false
set_option linter.all false
set_option maxRecDepth 100000
set_option maxHeartbeats 4000000
/-! readings over values: calls, methods, instances, own operators -/
namespace VL
open PySem PySem.Spec PyProof.Rows L2 XR
/-! ### a def that changes nothing and gives a flat value: its arguments are only looked at -/
def flatT : T → Bool
  | .non => true
  | .bl _ => true
  | .int _ => true
  | .str _ => true
  | _ => false
abbrev VSpF := List T → (T → Prop) → Prop
def falses : Nat → List Bool
  | 0 => []
  | n + 1 => false :: falses n
/-- .. as a promise with nothing open -/
def ofF (fv : VSpF) : VSp := fun ts Q _ => ∃ Q0 : T → Prop, fv ts Q0 ∧ ∀ t, flatT t = true → Q0 t → Q (.val t) []
def vspF (K : PySem.W.Frag) (fv : VSpF) : Sp := fun vs H Q _ => ∃ (G : Hp) (ts : List T) (Qv : T → Prop), Same G H ∧ RpAll K G vs ts ∧ fv ts Qv ∧ ∀ (t : T) (v : V) (H' : Hp), Same H H' → (∀ G' : Hp, Rp K G' v t) → Qv t → Q v H'
theorem flat_any {K : PySem.W.Frag} {G G' : Hp} {v : V} {t : T} (r : Rp K G v t) (f : flatT t = true) : Rp K G' v t := by
  cases r with
  | non => exact .non
  | bl b => exact .bl b
  | int i => exact .int i
  | str s h => exact .str s h
  | _ => cases f
theorem argsF {K : PySem.W.Frag} {G H : Hp} : ∀ {vs : List V} {ts : List T}, RpAll K G vs ts → ArgsR K G H (falses vs.length) vs ts
  | _, _, .nil => .nil
  | _, _, .cons a b => .val a (argsF b)
theorem ioF : ∀ (vs : List V), ioA (falses vs.length) vs = []
  | [] => rfl
  | v :: vs => by show ioA (false :: falses vs.length) (v :: vs) = []; cases v <;> exact ioF vs
theorem okF {P : Program} {w : World} {K : PySem.W.Frag} {mg : Str → Option Value} {base : Heap} {CX : CXT} {k : Nat} {f : Addr} {fd : FuncData} {ps : List Str} {fv : VSpF} (F : FnOk P w K mg base CX k f fd ps (vsp K (falses ps.length) (ofF fv)))
    (len : ∀ ts Q, fv ts Q → ts.length = ps.length) : FnOk P w K mg base CX k f fd ps (vspF K fv) := by
  refine F.imp fun vs H Q E h => ?_
  obtain ⟨G, ts, Qv, vw, rp, hf, kk⟩ := h
  have hl : ps.length = vs.length := (len ts Qv hf).symm.trans rp.length.symm
  rw [hl]
  refine ⟨G, ts, fun rt o => ∃ t, rt = .val t ∧ flatT t = true ∧ Qv t, fun _ _ => False, vw, argsF rp, by rw [ioF]; exact .nil, ⟨Qv, hf, fun t fl q => ⟨t, rfl, fl, q⟩⟩, fun rt o v G' H' F' r q => ?_, fun _ _ _ _ _ _ _ q => q.elim⟩
  · obtain ⟨t, rfl, fl, q⟩ := q
    rw [ioF] at F'
    exact kk t v H' (fun a o e => F'.hh a o e (by simp)) (fun G'' => flat_any r fl) q
/-- looked at, one after another -/
def peeks : List Rf → Env → (List T → Prop) → Prop
  | [], _, Q => Q []
  | r :: rs, γ, Q => peek r γ fun t => peeks rs γ fun ts => Q (t :: ts)
section
variable {K : PySem.W.Frag} {B : Bs} {as : List Addr} {γ : Env} {σ : L2.St} {G H : Hp}
/-- all that is open, settled for a while -/
def openG (as : List Addr) (G H : Hp) : Hp := fun a => match G a with
  | some o => some o
  | none => if a ∈ as then H a else none
theorem openG_same (S : StR K B as γ σ G H) : Same (openG as G H) H ∧ Same G (openG as G H) := by
  refine ⟨fun a o e => ?_, fun a o e => ?_⟩
  · unfold openG at e
    split at e
    · rename_i o' e2; cases e; exact S.vw _ _ e2
    · split at e
      · exact e
      · cases e
  · unfold openG; rw [e]
theorem openG_at {a : Addr} (h1 : a ∈ as) (h2 : G a = none) : openG as G H a = H a := by
  unfold openG; rw [h2]; simp [h1]
theorem MutR.openG {a : Addr} {t : T} (g : Same G (openG as G H)) (e : openG as G H a = H a) (h : MutR K G H a t) : Rp K (openG as G H) (.ref a) t := by
  cases t with
  | lst ts => obtain ⟨acc, q, z⟩ := h; exact .lst (e.trans q) (z.mono g)
  | obj C gs => obtain ⟨dx, fs, q, z⟩ := h; exact .obj (e.trans q) z.1 (z.2.mono g)
  | dk ks => obtain ⟨kvs, q, z⟩ := h; exact .dk (e.trans q) z.1 (z.2.mono g)
  | dt ks => obtain ⟨kvs, q, z⟩ := h; exact .dt (e.trans q) z.1 (z.2.mono g)
  | _ => exact h.elim
theorem peek_open {r : Rf} {v : V} {Q : T → Prop} (S : StR K B as γ σ G H) (rr : RR K B.ex as G r v) (h : peek r γ Q) : ∃ t, Q t ∧ Rp K (openG as G H) v t := by
  have g := (openG_same S).2
  cases r with
  | val t => exact ⟨t, h, Rp.mono g rr⟩
  | ref k =>
    obtain ⟨a, ea, rfl⟩ := rr
    unfold peek at h
    simp only [nth_eq] at h
    split at h
    · rename_i t e
      obtain ⟨_, q⟩ := S.mem k a _ ea e
      exact ⟨t, h, q.mono g⟩
    · rename_i t e
      obtain ⟨hn, q⟩ := S.mem k a _ ea e
      exact ⟨t, h, q.openG g (openG_at (List.mem_of_getElem? ea) hn)⟩
    · exact h.elim
  | err D gs => exact h.elim
theorem peeks_open (S : StR K B as γ σ G H) : ∀ {rs : List Rf} {vs : List V} {Q : List T → Prop}, RRs K B.ex as G rs vs → peeks rs γ Q → ∃ ts, RpAll K (openG as G H) vs ts ∧ Q ts
  | _, _, Q, .nil, h => ⟨[], .nil, h⟩
  | _, _, Q, .cons a b, h => by
    obtain ⟨t, h, rp⟩ := peek_open S a h
    obtain ⟨ts, rps, q⟩ := peeks_open S b h
    exact ⟨t :: ts, .cons rp rps, q⟩
def callF (fv : VSpF) (rs : List Rf) (γ : Env) (Q : RQ) : Prop := peeks rs γ fun ts => fv ts fun t => Q (.val t) γ
theorem callF_ok {fv : VSpF} {rs : List Rf} {vs : List V} {Q : VK} {E1 : XK} {Qv : RQ} (S : StR K B as γ σ G H) (rr : RRs K B.ex as G rs vs) (h : callF fv rs γ Qv) (k : KontP K B as σ G (rR K B) Q Qv) : vspF K fv vs H Q E1 := by
  obtain ⟨ts, rp, h⟩ := peeks_open S rr h
  exact ⟨_, ts, _, (openG_same S).1, rp, h, fun t v H' x r q => k (.val t) γ as v G H' (List.prefix_refl _) (Same.refl _) (S.grow x) (r G) q⟩
end
/-! ### a promise of either kind, asked with numbered values -/
class VF (K : PySem.W.Frag) (sp : Sp) (w : outParam (List Rf → Env → RQ → XQ → Prop)) : Prop where
  run : ∀ {B : Bs} {as : List Addr} {γ : Env} {σ : L2.St} {G H : Hp} {rs : List Rf} {vs : List V} {Q : VK} {E1 : XK} {Qv : RQ} {Xv : XQ}, StR K B as γ σ G H → RRs K B.ex as G rs vs → w rs γ Qv Xv → KontP K B as σ G (rR K B) Q Qv → KontX K B as σ G E1 Xv → sp vs H Q E1
instance {K : PySem.W.Frag} {ks : List Bool} {fv : VSp} : VF K (vsp K ks fv) (callQ ks fv) := ⟨fun S rr h k kx => call_ok S rr h k kx⟩
instance {K : PySem.W.Frag} {fv : VSpF} : VF K (vspF K fv) (fun rs γ Q _ => callF fv rs γ Q) := ⟨fun S rr h k _ => callF_ok S rr h k⟩
section
variable {K : PySem.W.Frag} {B : Bs} {E : L2.St → XK} {sp : Sp} {wf : List Rf → Env → RQ → XQ → Prop} [hf : VF K sp wf]
def vCall (wf : List Rf → Env → RQ → XQ → Prop) (wa : Env → (List Rf → Env → Prop) → XQ → Prop) : VW := fun γ Q X => wa γ (fun rs γ1 => wf rs γ1 Q X) X
def vCall0 (wf : List Rf → Env → RQ → XQ → Prop) (wa : Env → (List Rf → Env → Prop) → XQ → Prop) : VW := fun γ Q X => wa γ (fun rs γ1 => wf rs γ1 Q noX) X
section
variable {t : TA} {wa : Env → (List Rf → Env → Prop) → XQ → Prop}
instance [ha : VA K B E t wa] : VE K B E (tCall sp [] E0 t) (vCall0 wf wa) where
  run := fun {as γ σ G H Q Qv Xv} S h k kx => by
    refine ha.run S h (fun rs γ1 as1 vs G1 H1 p1 g1 S1 rr1 q1 => ?_) kx
    rw [List.append_nil]
    exact hf.run S1 rr1 q1 (k.mono p1 g1) kxno
instance {E1 : XK} [ha : VA K B (fun _ => E1) t wa] : VE K B (fun _ => E1) (tCall sp [] E1 t) (vCall wf wa) where
  run := fun {as γ σ G H Q Qv Xv} S h k kx => by
    refine ha.run S h (fun rs γ1 as1 vs G1 H1 p1 g1 S1 rr1 q1 => ?_) kx
    rw [List.append_nil]
    exact hf.run S1 rr1 q1 (k.mono p1 g1) (kx.mono p1 g1)
instance {W : WX} [ha : VA K B (WE W) t wa] : VE K B (WE W) (tCallS sp (WE W) t) (vCall wf wa) where
  run := fun {as γ σ G H Q Qv Xv} S h k kx => by
    refine ha.run S h (fun rs γ1 as1 vs G1 H1 p1 g1 S1 rr1 q1 => ?_) kx
    exact hf.run S1 rr1 q1 (k.mono p1 g1) (kx.mono p1 g1)
end
/-! ### o.m(..), o.p -/
def isO (C : Addr) (m : Str) (t : T) : Prop := match t with
  | .obj C' gs => C' = C ∧ gs.lookup m = none
  | _ => False
theorem look_none {κ : Type} [BEq κ] {f : κ} : ∀ {fs : List (κ × V)} {gs : List (κ × T)}, fs.map Prod.fst = gs.map Prod.fst → gs.lookup f = none → fs.lookup f = none
  | [], [], _, _ => rfl
  | [], _ :: _, h, _ => by cases h
  | _ :: _, [], h, _ => by cases h
  | (n, v) :: fs, (m, u) :: gs, h, e => by
    simp only [List.map_cons, List.cons.injEq] at h
    obtain ⟨rfl, h⟩ := h
    unfold List.lookup at e ⊢
    cases hb : f == n with
    | true => rw [hb] at e; cases e
    | false => rw [hb] at e; exact look_none h e
theorem isO_ok {C : Addr} {m : Str} {as : List Addr} {γ : Env} {σ : L2.St} {G H : Hp} {r : Rf} {v : V} (S : StR K B as γ σ G H) (rr : RR K B.ex as G r v) (h : peek r γ (isO C m)) : ∃ a dx fs, v = .ref a ∧ H a = some (.ins C dx fs) ∧ fs.lookup m = none := by
  obtain ⟨t, q, z⟩ := peek_rp S rr h
  unfold isO at q
  split at q
  · obtain ⟨rfl, q⟩ := q
    cases z with | obj e e2 _ => exact ⟨_, _, _, rfl, e, look_none e2 q⟩
  · exact q.elim
def vMeth0 (C : Addr) (m : Str) (wf : List Rf → Env → RQ → XQ → Prop) (wo : VW) (wa : Env → (List Rf → Env → Prop) → XQ → Prop) : VW := fun γ Q X => wo γ (fun r γ1 => peek r γ1 (isO C m) ∧ wa γ1 (fun rs γ2 => wf (r :: rs) γ2 Q noX) X) X
def vMeth (C : Addr) (m : Str) (wf : List Rf → Env → RQ → XQ → Prop) (wo : VW) (wa : Env → (List Rf → Env → Prop) → XQ → Prop) : VW := fun γ Q X => wo γ (fun r γ1 => peek r γ1 (isO C m) ∧ wa γ1 (fun rs γ2 => wf (r :: rs) γ2 Q X) X) X
section
variable {C : Addr} {m : Str} {to : TE} {wo : VW} {t : TA} {wa : Env → (List Rf → Env → Prop) → XQ → Prop}
instance [ho : VE K B E to wo] [ha : VA K B E t wa] : VE K B E (tMeth C m sp [] E0 to t) (vMeth0 C m wf wo wa) where
  run := fun {as γ σ G H Q Qv Xv} S h k kx => by
    refine ho.run S h (fun r γ1 as1 v G1 H1 p1 g1 S1 rr1 q1 => ?_) kx
    obtain ⟨a, dx, fs, rfl, e1, e2⟩ := isO_ok S1 rr1 q1.1
    refine ⟨a, dx, fs, rfl, e1, e2, ha.run S1 q1.2 (fun rs γ2 as2 vs G2 H2 p2 g2 S2 rr2 q2 => ?_) (kx.mono p1 g1)⟩
    rw [List.append_nil]
    exact hf.run S2 (.cons (RR.mono rr1 p2 g2) rr2) q2 ((k.mono p1 g1).mono p2 g2) kxno
instance {E1 : XK} [ho : VE K B (fun _ => E1) to wo] [ha : VA K B (fun _ => E1) t wa] : VE K B (fun _ => E1) (tMeth C m sp [] E1 to t) (vMeth C m wf wo wa) where
  run := fun {as γ σ G H Q Qv Xv} S h k kx => by
    refine ho.run S h (fun r γ1 as1 v G1 H1 p1 g1 S1 rr1 q1 => ?_) kx
    obtain ⟨a, dx, fs, rfl, e1, e2⟩ := isO_ok S1 rr1 q1.1
    refine ⟨a, dx, fs, rfl, e1, e2, ha.run S1 q1.2 (fun rs γ2 as2 vs G2 H2 p2 g2 S2 rr2 q2 => ?_) (kx.mono p1 g1)⟩
    rw [List.append_nil]
    exact hf.run S2 (.cons (RR.mono rr1 p2 g2) rr2) q2 ((k.mono p1 g1).mono p2 g2) ((kx.mono p1 g1).mono p2 g2)
def isC (C : Addr) (t : T) : Prop := match t with
  | .obj C' _ => C' = C
  | _ => False
theorem isC_ok {C : Addr} {as : List Addr} {γ : Env} {σ : L2.St} {G H : Hp} {r : Rf} {v : V} (S : StR K B as γ σ G H) (rr : RR K B.ex as G r v) (h : peek r γ (isC C)) : ∃ a dx fs, v = .ref a ∧ H a = some (.ins C dx fs) := by
  obtain ⟨t, q, z⟩ := peek_rp S rr h
  unfold isC at q
  split at q
  · obtain rfl := q
    cases z with | obj e _ _ => exact ⟨_, _, _, rfl, e⟩
  · exact q.elim
def vProp (C : Addr) (wf : List Rf → Env → RQ → XQ → Prop) (wo : VW) : VW := fun γ Q X => wo γ (fun r γ1 => peek r γ1 (isC C) ∧ wf [r] γ1 Q noX) X
instance [ho : VE K B E to wo] : VE K B E (tProp C sp [] E0 to) (vProp C wf wo) where
  run := fun {as γ σ G H Q Qv Xv} S h k kx => by
    refine ho.run S h (fun r γ1 as1 v G1 H1 p1 g1 S1 rr1 q1 => ?_) kx
    obtain ⟨a, dx, fs, rfl, e1⟩ := isC_ok S1 rr1 q1.1
    exact ⟨a, dx, fs, rfl, e1, hf.run S1 (.cons rr1 .nil) q1.2 (k.mono p1 g1) kxno⟩
/-- C.m(..), a staticmethod -/
def vStat0 (C : Addr) (wf : List Rf → Env → RQ → XQ → Prop) (wo : VW) (wa : Env → (List Rf → Env → Prop) → XQ → Prop) : VW := fun γ Q X => wo γ (fun r γ1 => r = .val (.cls C) ∧ wa γ1 (fun rs γ2 => wf rs γ2 Q noX) X) X
instance [ho : VE K B E to wo] [ha : VA K B E t wa] : VE K B E (tStat C sp (fun _ => E0) to t) (vStat0 C wf wo wa) where
  run := fun {as γ σ G H Q Qv Xv} S h k kx => by
    refine ho.run S h (fun r γ1 as1 v G1 H1 p1 g1 S1 rr1 q1 => ?_) kx
    obtain ⟨rfl, q1⟩ := q1
    have rr1 : Rp K G1 v (.cls C) := rr1
    cases rr1
    refine ⟨rfl, ha.run S1 q1 (fun rs γ2 as2 vs G2 H2 p2 g2 S2 rr2 q2 => ?_) (kx.mono p1 g1)⟩
    exact hf.run S2 rr2 q2 ((k.mono p1 g1).mono p2 g2) kxno
def vStat (C : Addr) (wf : List Rf → Env → RQ → XQ → Prop) (wo : VW) (wa : Env → (List Rf → Env → Prop) → XQ → Prop) : VW := fun γ Q X => wo γ (fun r γ1 => r = .val (.cls C) ∧ wa γ1 (fun rs γ2 => wf rs γ2 Q X) X) X
instance [ho : VE K B E to wo] [ha : VA K B E t wa] : VE K B E (tStat C sp E to t) (vStat C wf wo wa) where
  run := fun {as γ σ G H Q Qv Xv} S h k kx => by
    refine ho.run S h (fun r γ1 as1 v G1 H1 p1 g1 S1 rr1 q1 => ?_) kx
    obtain ⟨rfl, q1⟩ := q1
    have rr1 : Rp K G1 v (.cls C) := rr1
    cases rr1
    refine ⟨rfl, ha.run S1 q1 (fun rs γ2 as2 vs G2 H2 p2 g2 S2 rr2 q2 => ?_) (kx.mono p1 g1)⟩
    exact hf.run S2 rr2 q2 ((k.mono p1 g1).mono p2 g2) ((kx.mono p1 g1).mono p2 g2)
/-! ### C(..) -/
def vMake0 (C : Addr) (wf : List Rf → Env → RQ → XQ → Prop) (wa : Env → (List Rf → Env → Prop) → XQ → Prop) : VW := fun γ Q X => wa γ (fun rs γ1 => wf (.ref γ1.mem.length :: rs) (γ1.push (.mu (.obj C []))) (fun r γ2 => r = .val .non ∧ Q (.ref γ1.mem.length) γ2) noX) X
def vMake (C : Addr) (wf : List Rf → Env → RQ → XQ → Prop) (wa : Env → (List Rf → Env → Prop) → XQ → Prop) : VW := fun γ Q X => wa γ (fun rs γ1 => wf (.ref γ1.mem.length :: rs) (γ1.push (.mu (.obj C []))) (fun r γ2 => r = .val .non ∧ Q (.ref γ1.mem.length) γ2) X) X
theorem make_ok {as : List Addr} {γ : Env} {σ : L2.St} {G H : Hp} {rs : List Rf} {vs : List V} {Q : VK} {E1 : XK} {Qv : RQ} {Xv : XQ} {x dx : Addr} (S : StR K B as γ σ G H) (rr : RRs K B.ex as G rs vs)
    (h : wf (.ref γ.mem.length :: rs) (γ.push (.mu (.obj C []))) (fun r γ2 => r = .val .non ∧ Qv (.ref γ.mem.length) γ2) Xv) (k : KontP K B as σ G (rR K B) Q Qv) (kx : KontX K B as σ G E1 Xv) (hx : H x = none) (hd : H dx = none) (hne : dx ≠ x) :
    sp (.ref x :: vs) (L2.upd (L2.upd H dx (.own x)) x (.ins C dx [])) (fun v H2 => v = .non ∧ Q (.ref x) H2) E1 := by
  have S1 := S.grow (Same.add (p := dx) (o := .own x) hd)
  have hx1 : (L2.upd H dx (.own x)) x = none := by rw [upd_ne hne.symm]; exact hx
  have S2 := S1.alloc (t := .obj C []) (o := .ins C dx []) hx1 ⟨dx, [], upd_same, rfl, .nil⟩
  have at_ : (as ++ [x])[γ.mem.length]? = some x := by rw [← S.mlen, List.getElem?_append_right (Nat.le_refl _), Nat.sub_self]; rfl
  have pre : as <+: as ++ [x] := List.prefix_append _ _
  refine hf.run (γ := γ.push (.mu (.obj C []))) S2 (Paired.cons (F := RR K B.ex (as ++ [x]) G) (show RR K B.ex (as ++ [x]) G (.ref γ.mem.length) (.ref x) from ⟨x, at_, rfl⟩) (RRs.mono pre (Same.refl _) rr)) h (fun r γ3 as3 v G3 H3 p3 g3 S3 rr3 q3 => ?_) (kx.mono pre (Same.refl _))
  obtain ⟨rfl, q3⟩ := q3
  have rr3 : Rp K G3 v .non := rr3
  cases rr3
  exact ⟨rfl, k (.ref γ.mem.length) _ _ _ _ _ (pre.trans p3) g3 S3 ⟨x, pre_get p3 at_, rfl⟩ q3⟩
instance [ha : VA K B E t wa] : VE K B E (tMake C sp [] E0 t) (vMake0 C wf wa) where
  run := fun {as γ σ G H Q Qv Xv} S h k kx => by
    refine ha.run S h (fun rs γ1 as1 vs G1 H1 p1 g1 S1 rr1 q1 => ?_) kx
    intro x dx hx hd hne
    rw [List.append_nil]
    exact make_ok S1 rr1 q1 (k.mono p1 g1) kxno hx hd hne
instance {E1 : XK} [ha : VA K B (fun _ => E1) t wa] : VE K B (fun _ => E1) (tMake C sp [] E1 t) (vMake C wf wa) where
  run := fun {as γ σ G H Q Qv Xv} S h k kx => by
    refine ha.run S h (fun rs γ1 as1 vs G1 H1 p1 g1 S1 rr1 q1 => ?_) kx
    intro x dx hx hd hne
    rw [List.append_nil]
    exact make_ok S1 rr1 q1 (k.mono p1 g1) (kx.mono p1 g1) hx hd hne
instance {W : WX} [ha : VA K B (WE W) t wa] : VE K B (WE W) (tMakeS C sp (WE W) t) (vMake C wf wa) where
  run := fun {as γ σ G H Q Qv Xv} S h k kx => by
    refine ha.run S h (fun rs γ1 as1 vs G1 H1 p1 g1 S1 rr1 q1 => ?_) kx
    intro x dx hx hd hne
    exact make_ok S1 rr1 q1 (k.mono p1 g1) (kx.mono p1 g1) hx hd hne
end
/-! ### own operators -/
def vOwn2 (C : Addr) (wf : List Rf → Env → RQ → XQ → Prop) : Rf → Rf → VW := fun r1 r2 γ Q X => peek r1 γ (isC C) ∧ peek r2 γ (isC C) ∧ wf [r1, r2] γ Q X
def vOwn20 (C : Addr) (wf : List Rf → Env → RQ → XQ → Prop) : Rf → Rf → VW := fun r1 r2 γ Q _ => peek r1 γ (isC C) ∧ peek r2 γ (isC C) ∧ wf [r1, r2] γ Q noX
def vOwnI (C : Addr) (wf : List Rf → Env → RQ → XQ → Prop) : Rf → Rf → VW := fun r1 r2 γ Q _ => peek r1 γ (isC C) ∧ peek r2 γ (fun t => match t with
  | .int _ => True
  | _ => False) ∧ wf [r1, r2] γ Q noX
def blR (neg : Bool) (Q : RQ) : RQ := fun r γ => peek r γ fun t => match t with
  | .bl b => Q (.val (.bl (nb neg b))) γ
  | _ => False
def vOwnEq (C : Addr) (neg : Bool) (wf : List Rf → Env → RQ → XQ → Prop) : Rf → Rf → VW := fun r1 r2 γ Q _ => peek r1 γ (isC C) ∧ peek r2 γ (isC C) ∧ wf [r1, r2] γ (blR neg Q) noX
def vOwnIn (C : Addr) (neg : Bool) (wf : List Rf → Env → RQ → XQ → Prop) : Rf → Rf → VW := fun r1 r2 γ Q _ => peek r2 γ (isC C) ∧ wf [r2, r1] γ (blR neg Q) noX
section
variable {C : Addr}
instance : V2 K B E (rOwnC C sp E0) (vOwn20 C wf) where
  run := fun {as γ σ G H x y rx ry Q Qv Xv} S r1 r2 h k _ => by
    obtain ⟨a, dx, fs, rfl, e1⟩ := isC_ok S r1 h.1
    obtain ⟨b, dy, gs, rfl, e2⟩ := isC_ok S r2 h.2.1
    exact ⟨a, b, dx, dy, fs, gs, rfl, rfl, e1, e2, hf.run S (.cons r1 (.cons r2 .nil)) h.2.2 k kxno⟩
instance {E1 : XK} : V2 K B (fun _ => E1) (rOwnC C sp E1) (vOwn2 C wf) where
  run := fun {as γ σ G H x y rx ry Q Qv Xv} S r1 r2 h k kx => by
    obtain ⟨a, dx, fs, rfl, e1⟩ := isC_ok S r1 h.1
    obtain ⟨b, dy, gs, rfl, e2⟩ := isC_ok S r2 h.2.1
    exact ⟨a, b, dx, dy, fs, gs, rfl, rfl, e1, e2, hf.run S (.cons r1 (.cons r2 .nil)) h.2.2 k kx⟩
instance {W : WX} {ta tb : TE} {wa wb : VW} [ha : VE K B (WE W) ta wa] [hb : VE K B (WE W) tb wb] : VE K B (WE W) (tOpS (fun σ => rOwnC C sp (WE W σ)) ta tb) (vOp (vOwn2 C wf) wa wb) where
  run := fun {as γ σ G H Q Qv Xv} S h k kx => by
    refine ha.run S h (fun r1 γ1 as1 v1 G1 H1 p1 g1 S1 rr1 q1 => ?_) kx
    refine hb.run S1 q1 (fun r2 γ2 as2 v2 G2 H2 p2 g2 S2 rr2 q2 => ?_) (kx.mono p1 g1)
    have rr1 := RR.mono rr1 p2 g2
    obtain ⟨a, dx, fs, rfl, e1⟩ := isC_ok S2 rr1 q2.1
    obtain ⟨b, dy, gs, rfl, e2⟩ := isC_ok S2 rr2 q2.2.1
    exact ⟨a, b, dx, dy, fs, gs, rfl, rfl, e1, e2, hf.run S2 (.cons rr1 (.cons rr2 .nil)) q2.2.2 ((k.mono p1 g1).mono p2 g2) ((kx.mono p1 g1).mono p2 g2)⟩
instance : V2 K B E (rOwnI C sp E0) (vOwnI C wf) where
  run := fun {as γ σ G H x y rx ry Q Qv Xv} S r1 r2 h k _ => by
    obtain ⟨a, dx, fs, rfl, e1⟩ := isC_ok S r1 h.1
    obtain ⟨t, q, z⟩ := peek_ok S r2 h.2.1
    split at q
    · exact ⟨a, dx, fs, _, rfl, int_any z, e1, by rw [← int_any z]; exact hf.run S (.cons r1 (.cons r2 .nil)) h.2.2 k kxno⟩
    · exact q.elim
theorem blR_k {neg : Bool} {as : List Addr} {σ : L2.St} {G : Hp} {Q : VK} {Qv : RQ} (k : KontP K B as σ G (rR K B) Q Qv) : KontP K B as σ G (rR K B) (fun v H' => ∃ c, v = .bl c ∧ Q (.bl (if neg = true then !c else c)) H') (blR neg Qv) := fun r γ' as' v G' H' p g S rr q => by
  obtain ⟨t, q, z⟩ := peek_ok S rr q
  split at q
  · refine ⟨_, bl_any z, ?_⟩
    have e : ∀ b : Bool, (if neg = true then !b else b) = nb neg b := fun b => by cases neg <;> rfl
    rw [e]
    exact k (.val (.bl _)) _ _ _ _ _ p g S (Rp.bl _) q
  · exact q.elim
instance : V2 K B E (rEqOwn C sp E0 false) (vOwnEq C false wf) where
  run := fun {as γ σ G H x y rx ry Q Qv Xv} S r1 r2 h k _ => by
    obtain ⟨a, dx, fs, rfl, e1⟩ := isC_ok S r1 h.1
    obtain ⟨b, dy, gs, rfl, e2⟩ := isC_ok S r2 h.2.1
    exact ⟨a, b, dx, dy, fs, gs, rfl, rfl, e1, e2, hf.run S (.cons r1 (.cons r2 .nil)) h.2.2 (blR_k k) kxno⟩
instance : V2 K B E (rEqOwn C sp E0 true) (vOwnEq C true wf) where
  run := fun {as γ σ G H x y rx ry Q Qv Xv} S r1 r2 h k _ => by
    obtain ⟨a, dx, fs, rfl, e1⟩ := isC_ok S r1 h.1
    obtain ⟨b, dy, gs, rfl, e2⟩ := isC_ok S r2 h.2.1
    exact ⟨a, b, dx, dy, fs, gs, rfl, rfl, e1, e2, hf.run S (.cons r1 (.cons r2 .nil)) h.2.2 (blR_k k) kxno⟩
instance : V2 K B E (rInOwn C sp E0 false) (vOwnIn C false wf) where
  run := fun {as γ σ G H x y rx ry Q Qv Xv} S r1 r2 h k _ => by
    obtain ⟨a, dx, fs, rfl, e1⟩ := isC_ok S r2 h.1
    exact ⟨a, dx, fs, rfl, e1, hf.run S (.cons r2 (.cons r1 .nil)) h.2 (blR_k k) kxno⟩
instance : V2 K B E (rInOwn C sp E0 true) (vOwnIn C true wf) where
  run := fun {as γ σ G H x y rx ry Q Qv Xv} S r1 r2 h k _ => by
    obtain ⟨a, dx, fs, rfl, e1⟩ := isC_ok S r2 h.1
    exact ⟨a, dx, fs, rfl, e1, hf.run S (.cons r2 (.cons r1 .nil)) h.2 (blR_k k) kxno⟩
def vNegOwn (C : Addr) (wf : List Rf → Env → RQ → XQ → Prop) : Rf → VW := fun r γ Q _ => peek r γ (isC C) ∧ wf [r] γ Q noX
instance : V1 K B E (rNegOwn C sp E0) (vNegOwn C wf) where
  run := fun {as γ σ G H x rx Q Qv Xv} S r1 h k _ => by
    obtain ⟨a, dx, fs, rfl, e1⟩ := isC_ok S r1 h.1
    exact ⟨a, dx, fs, rfl, e1, hf.run S (.cons r1 .nil) h.2 k kxno⟩
def vStrOwn (C : Addr) (wf : List Rf → Env → RQ → XQ → Prop) : List Rf → VW := fun rs γ Q _ => arg1 rs fun r => peek r γ (isC C) ∧ wf [r] γ (fun r2 γ2 => peek r2 γ2 (fun t => match t with
  | .str _ => True
  | _ => False) ∧ Q r2 γ2) noX
instance : VC K B E (rStrOwn C sp E0) (vStrOwn C wf) where
  run := fun {as γ σ G H vs rs Q Qv Xv} S rr h k _ => by
    unfold vStrOwn arg1 at h
    split at h
    · cases rr with | cons r1 b =>
      cases b
      obtain ⟨a, dx, fs, rfl, e1⟩ := isC_ok S r1 h.1
      refine ⟨a, dx, fs, rfl, e1, hf.run S (.cons r1 .nil) h.2 (fun r γ' as' v G' H' p g S' rr q => ?_) kxno⟩
      obtain ⟨t, q1, z⟩ := peek_ok S' rr q.1
      split at q1
      · exact ⟨_, (str_any z).1, k _ _ _ _ _ _ p g S' rr q.2⟩
      · exact q1.elim
    · exact h.elim
end
end
end VL
set_option Elab.async false
set_option linter.all false
set_option maxRecDepth 100000
set_option maxHeartbeats 4000000
/-! readings over values: fields of instances, errors, try, dicts -/
namespace VL
open PySem PySem.Spec PyProof.Rows L2 XR
section
variable {K : PySem.W.Frag} {B : Bs} {E : L2.St → XK}
/-! ### self.f = e, of an open instance -/
def putG (f : Str) (t : T) : List (Str × T) → List (Str × T)
  | [] => [(f, t)]
  | (g, x) :: r => match decide (g = f) with
    | true => (g, t) :: r
    | false => (g, x) :: putG f t r
theorem putG_rp {G : Hp} {f : Str} {t : T} {v : V} (rp : Rp K G v t) : ∀ {fs : List (Str × V)} {gs : List (Str × T)}, RpF K G fs gs → RpF K G (putF f v fs) (putG f t gs)
  | [], [], _ => ⟨rfl, .cons rp .nil⟩
  | [], _ :: _, h => by cases h.1
  | _ :: _, [], h => by cases h.1
  | (n, x) :: fs, (m, u) :: gs, h => by
    have h1 := h.1
    simp only [List.map_cons, List.cons.injEq] at h1
    obtain ⟨rfl, h1⟩ := h1
    have h2 := h.2
    cases h2 with | cons a b =>
    unfold putF putG
    by_cases e : n = f
    · rw [if_pos e, decide_eq_true e]
      exact ⟨by simp only [List.map_cons]; rw [h1], .cons rp b⟩
    · rw [if_neg e, decide_eq_false e]
      obtain ⟨q1, q2⟩ := putG_rp rp (fs := fs) (gs := gs) ⟨h1, b⟩
      exact ⟨by simp only [List.map_cons]; rw [q1], .cons a q2⟩
def setF (K : PySem.W.Frag) (r : Rf) (f : Str) (t : T) (γ : Env) (Q : Env → Prop) : Prop := match r with
  | .ref k => match nth γ.mem k with
    | some (.mu (.obj C gs)) => (Cls K C ∧ NoAttr K C f) ∧ gs.length < 1000 ∧ Q (γ.put k (.mu (.obj C (putG f t gs))))
    | _ => False
  | _ => False
def vSFld (K : PySem.W.Frag) (f : Str) (wo wv : VW) : VSW := fun γ D => wv γ (fun rv γ1 => wo γ1 (fun ro γ2 => toT rv γ2 fun t γ3 => setF K ro f t γ3 D.nx) D.ex) D.ex
instance {f : Str} {to tv : TE} {wo wv : VW} [ho : VE K B E to wo] [hv : VE K B E tv wv] : VS K B E (sFld K to tv f) (vSFld K f wo wv) where
  run := fun {as γ σ G H D Dv} S h k => by
    refine hv.run S h (fun r1 γ1 as1 v1 G1 H1 p1 g1 S1 rr1 q1 => ?_) (k.ex σ)
    refine ho.run S1 q1 (fun r2 γ2 as2 v2 G2 H2 p2 g2 S2 rr2 q2 => ?_) ((k.ex σ).mono p1 g1)
    obtain ⟨t, γ3, G3, g3, S3, rp, q3⟩ := toT_ok S2 (RR.mono rr1 p2 g2) q2
    unfold setF at q3
    split at q3
    · rename_i kk
      obtain ⟨a, ea, rfl⟩ := rr2
      simp only [nth_eq] at q3
      split at q3
      · rename_i C gs e
        obtain ⟨⟨c1, c2⟩, c3, q3⟩ := q3
        obtain ⟨_, dx, fs, ha, rf⟩ := S3.mem _ a _ ea e
        have hl : fs.length = gs.length := by
          have := congrArg List.length rf.1
          simpa using this
        refine ⟨a, C, dx, fs, rfl, ha, c1, c2, by omega, ?_⟩
        have S4 := S3.write (o := .ins C dx (putF f v1 fs)) (t := .obj C (putG f t gs)) e ea ⟨dx, _, upd_same, putG_rp rp rf⟩
        exact k.nx _ _ _ _ _ (p1.trans p2) ((g1.trans g2).trans g3) S4 q3
      · exact q3.elim
    · exact q3.elim
/-! ### errors: made and raised -/
def fsOf {α : Type} : List Str → List α → List (Str × α) → Option (List (Str × α))
  | [], [], l => some l
  | n :: ns, v :: vs, l => fsOf ns vs ((n, v) :: l)
  | _, _, _ => none
theorem fsOf_rp {G : Hp} : ∀ {ns : List Str} {vs : List V} {ts : List T} {l : List (Str × V)} {l2 : List (Str × T)} {o : List (Str × T)}, RpAll K G vs ts → RpF K G l l2 → fsOf ns ts l2 = some o → ∃ p, fsOf ns vs l = some p ∧ RpF K G p o
  | [], _, _, l, l2, o, .nil, h, e => by
    have e : some l2 = some o := e
    cases e
    exact ⟨l, rfl, h⟩
  | [], _, _, l, l2, o, .cons _ _, h, e => by cases e
  | n :: ns, _, _, l, l2, o, .nil, h, e => by cases e
  | n :: ns, _, _, l, l2, o, .cons a b, h, e => fsOf_rp (ns := ns) (l := (n, _) :: l) (l2 := (n, _) :: l2) b ⟨by simp only [List.map_cons]; rw [h.1], .cons a h.2⟩ e
/-- the promise of an error's __init__ -/
def spErr (C : Addr) (ns : List Str) : Sp := spEx C fun ws => fsOf ns ws []
theorem mk_exN {C : Addr} {fs : List V → Option (List (Str × V))} {vs : List V} {l : List (Str × V)} {H : Hp} {E : XK} (hl : vs.length ≤ 1000) (hf : fs vs = some l) (k : ∀ d H', H d = none → H' d = some (.xd l) → Same H H' → E (.ref C) (some d) H') :
    vs.length ≤ 1000 ∧ ∀ a, H a = none → spEx C fs (.ref a :: (vs ++ [])) (L2.upd H a (exo a C none))
      (fun v H2 => v = .non ∧ ∃ (d : Addr) (g : List (Str × V)), H2 a = some (exo a C (some d)) ∧ H2 d = some (exd d g) ∧ H d = none ∧ E (.ref C) (some d) (L2.upd (del H2 a) d (.xd g))) (fun _ _ _ => False) := by
  refine ⟨hl, fun a ha => ⟨a, vs, l, by rw [List.append_nil], hf, upd_same, fun d H' hd hda ea ed x => ⟨rfl, d, l, ea, ed, ?_, k d _ ?_ upd_same fun q o e => ?_⟩⟩⟩
  · rw [upd_ne hda] at hd
    exact hd
  · rw [upd_ne hda] at hd
    exact hd
  · have hqa : q ≠ a := ne_of_none e ha
    have hqd : q ≠ d := fun z => by
      rw [upd_ne hda] at hd
      rw [z, hd] at e
      cases e
    rw [upd_ne hqd, del_ne hqa]
    refine x q o hqa ?_
    rw [upd_ne hqa]
    exact e
def tRaise (W : WX) (t : L2.St → Hp → XK → Prop) : TS := fun _ σ H => t σ H fun cls d H' => W cls d σ H'
theorem ps_raiseU {X : Cx} {W : WX} {e : Expr} {t : L2.St → Hp → XK → Prop} {pos : Pos} (hc : X.calm = true) (tk : Takes X W) (he : PMk X e t) : PS X (.Raise (some e) none pos) (tRaise W t) := ps_raise hc tk he
theorem err_view {as : List Addr} {γ : Env} {σ : L2.St} {G H H' : Hp} {d : Addr} {fs : List (Str × V)} (S : StR K B as γ σ G H) (hd : H d = none) (hd' : H' d = some (.xd fs)) (x : Same H H') : StR K B as γ σ (L2.upd G d (.xd fs)) H' ∧ Same G (L2.upd G d (.xd fs)) := by
  have g : Same G (L2.upd G d (.xd fs)) := Same.add (S.newG hd)
  refine ⟨(S.grow x).view g (fun a o e => ?_) fun a z1 z2 => ?_, g⟩
  · by_cases h : a = d
    · subst h; rw [upd_same] at e; cases e; exact hd'
    · rw [upd_ne h] at e; exact x _ _ (S.vw _ _ e)
  · by_cases h : a = d
    · subst h; exact ⟨S.new0 hd, S.newA hd⟩
    · rw [upd_ne h] at z2; exact absurd z1 z2
def vRaise (C : Addr) (ns : List Str) (wa : Env → (List Rf → Env → Prop) → XQ → Prop) : VSW := fun γ D => wa γ (fun rs γ1 => toTs rs γ1 fun ts γ2 => ts.length ≤ 1000 ∧ isS (fsOf ns ts []) fun l => D.ex (C, l) γ2) D.ex
theorem raise_ok {C : Addr} {ns : List Str} {ta : TA} {wa : Env → (List Rf → Env → Prop) → XQ → Prop} [ha : VA K B E ta wa] {as : List Addr} {γ : Env} {σ : L2.St} {G H : Hp} {D : Ends} {Dv : VEnds} (S : StR K B as γ σ G H) (h : vRaise C ns wa γ Dv) (k : KontD K B E as G D Dv) :
    tMkO C (spErr C ns) [] ta σ H fun cls d H' => E σ cls d H' := by
  refine ha.run S h (fun rs γ1 as1 vs G1 H1 p1 g1 S1 rr1 q1 => ?_) (k.ex σ)
  obtain ⟨ts, γ2, G2, g2, S2, rp, hl, q⟩ := toTs_ok S1 rr1 q1
  obtain ⟨l, e, q⟩ := isS_e q
  obtain ⟨p, ep, rf⟩ := fsOf_rp (ns := ns) (l := []) (l2 := []) rp ⟨rfl, .nil⟩ e
  refine mk_exN (by rw [rp.length]; exact hl) ep fun d H' hd hd' x => ?_
  obtain ⟨S3, g3⟩ := err_view S2 hd hd' x
  exact k.ex σ (C, l) _ _ _ _ _ p1 ((g1.trans g2).trans g3) S3 (.inr ⟨d, p, rfl, upd_same, rf.mono g3⟩) q
instance {E1 : XK} {C : Addr} {ns : List Str} {ta : TA} {wa : Env → (List Rf → Env → Prop) → XQ → Prop} [ha : VA K B (fun _ => E1) ta wa] : VS K B (fun _ => E1) (tRaise (fun cls d _ H => E1 cls d H) (tMkO C (spErr C ns) [] ta)) (vRaise C ns wa) where
  run := fun {as γ σ G H D Dv} S h k => raise_ok (E := fun _ => E1) (ns := ns) S h k
instance {W : WX} {C : Addr} {ns : List Str} {ta : TA} {wa : Env → (List Rf → Env → Prop) → XQ → Prop} [ha : VA K B (WE W) ta wa] : VS K B (WE W) (tRaise W (tMkO C (spErr C ns) [] ta)) (vRaise C ns wa) where
  run := fun {as γ σ G H D Dv} S h k => raise_ok (E := WE W) (ns := ns) S h k
/-- an error without fields -/
def tMk0 (C : Addr) : L2.St → Hp → XK → Prop := fun _ H Q => Q (.ref C) none H
def vRaise0 (C : Addr) : VSW := fun γ D => D.ex (C, []) γ
instance {E1 : XK} {C : Addr} : VS K B (fun _ => E1) (tRaise (fun cls d _ H => E1 cls d H) (tMk0 C)) (vRaise0 C) where
  run := fun {as γ σ G H D Dv} S h k => k.ex σ (C, []) _ _ _ _ _ (List.prefix_refl _) (Same.refl _) S (.inl ⟨rfl, rfl⟩) h
instance {W : WX} {C : Addr} : VS K B (WE W) (tRaise W (tMk0 C)) (vRaise0 C) where
  run := fun {as γ σ G H D Dv} S h k => k.ex σ (C, []) _ _ _ _ _ (List.prefix_refl _) (Same.refl _) S (.inl ⟨rfl, rfl⟩) h
/-! ### try -/
def Bs.hot (B : Bs) (a : Addr) (cls : Value) (d : Option Addr) : Bs := ⟨B.G0, B.H0, B.io, (a, cls, d)⟩
def noErr : List (Option Rf) → List (Option Rf)
  | [] => []
  | some (.err _ _) :: r => none :: noErr r
  | some (.val t) :: r => some (.val t) :: noErr r
  | some (.ref k) :: r => some (.ref k) :: noErr r
  | none :: r => none :: noErr r
def Env.noErr (γ : Env) : Env := { γ with sl := VL.noErr γ.sl }
theorem noErr_len : ∀ l, (noErr l).length = l.length
  | [] => rfl
  | some (.err _ _) :: r => congrArg (· + 1) (noErr_len r)
  | some (.val t) :: r => congrArg (· + 1) (noErr_len r)
  | some (.ref k) :: r => congrArg (· + 1) (noErr_len r)
  | none :: r => congrArg (· + 1) (noErr_len r)
theorem noErr_at : ∀ (l : List (Option Rf)) (i : Nat) (r : Rf), (noErr l)[i]? = some (some r) → l[i]? = some (some r) ∧ ∀ D gs, r ≠ .err D gs
  | [], i, r, h => by cases h
  | some (.err _ _) :: l, 0, r, h => by cases h
  | some (.val t) :: l, 0, r, h => by cases h; exact ⟨rfl, fun _ _ z => by cases z⟩
  | some (.ref k) :: l, 0, r, h => by cases h; exact ⟨rfl, fun _ _ z => by cases z⟩
  | none :: l, 0, r, h => by cases h
  | some (.err _ _) :: l, i + 1, r, h => noErr_at l i r h
  | some (.val t) :: l, i + 1, r, h => noErr_at l i r h
  | some (.ref k) :: l, i + 1, r, h => noErr_at l i r h
  | none :: l, i + 1, r, h => noErr_at l i r h
theorem StR.reex {as : List Addr} {γ : Env} {σ : L2.St} {G H : Hp} {B' : Bs} (S : StR K B as γ σ G H) (h1 : B'.G0 = B.G0) (h2 : B'.H0 = B.H0) (h3 : B'.io = B.io) : StR K B' as γ.noErr σ G H := by
  obtain ⟨g0, h0, io, ex⟩ := B
  obtain ⟨g0', h0', io', ex'⟩ := B'
  cases h1; cases h2; cases h3
  refine ⟨S.vw, S.gg, S.out, S.hh, S.nio, S.pre, S.mlen, S.nd, S.fresh, S.mem, S.slen.trans (noErr_len _).symm, fun i r e => ?_⟩
  obtain ⟨e1, e2⟩ := noErr_at _ i r e
  obtain ⟨v, e3, e4⟩ := S.sl i r e1
  refine ⟨v, e3, ?_⟩
  cases r with
  | val t => exact e4
  | ref k => exact e4
  | err D gs => exact absurd rfl (e2 D gs)
def tTry (K : PySem.W.Frag) (c : Value) (i : Nat) (ts : Addr → Value → Option Addr → TS) (tb : WX → TS) : TS := fun D σ H => tb (wAs K c i ts (fun _ _ _ _ => False) D) D σ H
theorem ps_tryU {X : Cx} {x n : Str} {c : Value} {i : Nat} {body suite : List Stmt} {b₀ : Stmt} {np pos pos' : Pos} {tb : WX → TS} {ts : Addr → Value → Option Addr → TS} (hs : X.stack = X.env :: X.outer) (hf : X.env.frame = some X.env.locals) (hN : X.N.Nodup) (hi : X.N[i]? = some n) (hln : X.env.kindOf n = some .local) (hc : Names X x c) (tk : Takes X (fun _ _ _ _ => False))
    (hb : ∀ (W : WX) (pn : List (Addr × Obj)) (xe : Value → Shared → Prop), Takes (X.tr pn xe) W → PassesOwn (model X.prog X.w) X.A X.env xe → PSs (X.tr pn xe) body (tb W))
    (hsu : ∀ (a : Addr) (oe : Obj) (cls : Value) (d : Option Addr) (pn : List (Addr × Obj)), Zc cls d oe → (∃ vs, oe.data = .fields vs) → PSs (X.suite a ((a, oe) :: pn)) (b₀ :: suite) (ts a cls d)) :
    PS X (.Try body [.ExceptHandler (some (.Name x np)) (some n) (b₀ :: suite) pos'] [] [] pos) (tTry X.K c i ts tb) := ps_try_as hs hf hN hi hln hc tk hb hsu
def rtE (Q : RQ) : RQ := fun r γ => match r with
  | .err _ _ => False
  | .val t => Q (.val t) γ.noErr
  | .ref k => Q (.ref k) γ.noErr
def suiteE (i : Nat) (D : VEnds) : VEnds := ⟨fun γ2 => D.nx (γ2.unset i).noErr, rtE D.rt, fun γ2 => D.bk (γ2.unset i).noErr, fun γ2 => D.ct (γ2.unset i).noErr, noX⟩
def vTry (K : PySem.W.Frag) (c : Value) (i : Nat) (wb ws : VSW) : VSW := fun γ D => wb γ ⟨D.nx, D.rt, D.bk, D.ct, fun e γ1 => PySem.W.exmOne K (.ref e.1) c = some true ∧ ws (γ1.noErr.set i (.err e.1 e.2)) (suiteE i D)⟩
instance {c : Value} {i : Nat} {ts : Addr → Value → Option Addr → TS} {tb : WX → TS} {wb ws : VSW} [hb : ∀ W : WX, VS K B (WE W) (tb W) wb] [hs : ∀ (a : Addr) (cls : Value) (d : Option Addr), VS K (B.hot a cls d) E (ts a cls d) ws] : VS K B E (tTry K c i ts tb) (vTry K c i wb ws) where
  run := fun {as γ σ G H D Dv} S h k => by
    refine (hb _).run S h ⟨k.nx, k.bk, k.ct, k.rt, fun σ1 e γ1 as1 d G1 H1 p1 g1 S1 er q1 => ?_⟩
    obtain ⟨em, q1⟩ := q1
    refine ⟨true, em, fun _ a ha => ?_, fun z => by cases z⟩
    have S2 : StR K (B.hot a (.ref e.1) d) as1 γ1.noErr σ1 G1 H1 := S1.reex rfl rfl rfl
    have S3 := S2.store (r := .err e.1 e.2) (v := .ref a) ⟨rfl, rfl, er⟩ i
    have back : ∀ {γ2 : Env} {as2 : List Addr} {σ2 : L2.St} {G2 H2 : Hp}, StR K (B.hot a (.ref e.1) d) as2 γ2 σ2 G2 H2 → StR K B as2 (γ2.unset i).noErr (σ2.set i none) G2 H2 := fun {γ2 as2 σ2 G2 H2} S4 => by
      have S5 := (S4.unset i).slots (σ' := σ2.set i none) (by simp) fun j r e => by
        have e : (γ2.sl.set i none)[j]? = some (some r) := e
        by_cases hj : j = i
        · subst hj
          rcases Nat.lt_or_ge j γ2.sl.length with z | z
          · rw [List.getElem?_set_self z] at e; cases e
          · rw [List.getElem?_eq_none (by simpa using z)] at e; cases e
        · rw [List.getElem?_set_ne (Ne.symm hj)]
      exact S5.reex rfl rfl rfl
    refine (hs a (.ref e.1) d).run (Dv := suiteE i Dv) S3 q1 ⟨fun γ2 as2 σ2 G2 H2 p2 g2 S4 q => ?_, fun γ2 as2 σ2 G2 H2 p2 g2 S4 q => ?_, fun γ2 as2 σ2 G2 H2 p2 g2 S4 q => ?_, fun σ2 r γ2 as2 v G2 H2 p2 g2 S4 rr q => ?_, fun σ2 => kxno⟩
    · exact k.nx _ _ _ _ _ (p1.trans p2) (g1.trans g2) (back S4) q
    · exact k.bk _ _ _ _ _ (p1.trans p2) (g1.trans g2) (back S4) q
    · exact k.ct _ _ _ _ _ (p1.trans p2) (g1.trans g2) (back S4) q
    · have S5 : StR K B as2 γ2.noErr σ2 G2 H2 := S4.reex rfl rfl rfl
      cases r with
      | err D gs => exact q.elim
      | val t => exact k.rt σ2 (.val t) γ2.noErr as2 v G2 H2 (p1.trans p2) (g1.trans g2) S5 rr q
      | ref n => exact k.rt σ2 (.ref n) γ2.noErr as2 v G2 H2 (p1.trans p2) (g1.trans g2) S5 rr q
/-! ### the handled error: its class, its fields -/
def ErrIs (K : PySem.W.Frag) (D : Addr) (c : T) (b : Bool) : Prop := XR.Asks K D ∧ ∃ u, ClR c u ∧ PySem.W.kitOne K (.ref D) u = some b
def vIsE (K : PySem.W.Frag) : List Rf → VW := fun rs γ Q _ => match rs with
  | [.err D _, c] => peek c γ fun tc => ∃ b, ErrIs K D tc b ∧ Q (.val (.bl b)) γ
  | _ => False
instance {a : Addr} {cls : Value} {d : Option Addr} : VC K (B.hot a cls d) E (rIsA K cls d a) (vIsE K) where
  run := fun {as γ σ G H vs rs Q Qv Xv} S rr h k _ => by
    unfold vIsE at h
    split at h
    · cases rr with | cons r1 b =>
      cases b with | cons r2 b =>
      cases b
      obtain ⟨rfl, ec, er⟩ := r1
      obtain ⟨tc, h, z⟩ := peek_rp S r2 h
      obtain ⟨b, ⟨as_, u, hu, hk⟩, q⟩ := h
      have ec : cls = .ref _ := ec
      subst ec
      have kk := kval k S (.bl b) q
      rcases er with ⟨e1, _⟩ | ⟨dd, fs, e1, e2, _⟩
      · have e1 : d = none := e1
        exact .inr ⟨_, _, u, b, rfl, e1, as_, rfl, hu.ok z, hk, kk⟩
      · have e1 : d = some dd := e1
        exact .inl ⟨_, dd, fs, _, u, b, rfl, e1, S.vw _ _ e2, as_, rfl, hu.ok z, hk, kk⟩
    · exact h.elim
def vPf (K : PySem.W.Frag) (n : Str) (wo : VW) : VW := fun γ Q X => wo γ (fun r γ1 => match r with
  | .err D gs => (XfC K D ∧ PySem.W.findIn K (.ref D) n = some none) ∧ isS (gs.lookup n) fun t => Q (.val t) γ1
  | _ => False) X
instance {a : Addr} {cls : Value} {d : Option Addr} {n : Str} {to : TE} {wo : VW} [ho : VE K (B.hot a cls d) E to wo] : VE K (B.hot a cls d) E (tPf K a cls d n to) (vPf K n wo) where
  run := fun {as γ σ G H Q Qv Xv} S h k kx => by
    refine ho.run S h (fun r γ1 as1 v G1 H1 p1 g1 S1 rr q => ?_) kx
    cases r with
    | err D gs =>
      obtain ⟨⟨c1, c2⟩, q⟩ := q
      obtain ⟨t, e, q⟩ := isS_e q
      obtain ⟨rfl, ec, er⟩ := rr
      have ec : cls = .ref D := ec
      subst ec
      rcases er with ⟨_, e1⟩ | ⟨dd, fs, e1, e2, rf⟩
      · subst e1; cases e
      · have e1 : d = some dd := e1
        obtain ⟨v, ev, rv⟩ := lookup_rp rf e
        exact ⟨D, dd, fs, v, rfl, rfl, e1, S1.vw _ _ e2, c1, c2, ev, kval (k.mono p1 g1) S1 rv q⟩
    | val t => exact q.elim
    | ref j => exact q.elim
/-! ### in a suite: defs that raise nothing -/
def vCallQ (wf : List Rf → Env → RQ → XQ → Prop) (wa : Env → (List Rf → Env → Prop) → XQ → Prop) : VW := fun γ Q X => wa γ (fun rs γ1 => wf rs γ1 Q noX) X
instance {sp : Sp} {wf : List Rf → Env → RQ → XQ → Prop} [hf : VF K sp wf] {t : TA} {wa : Env → (List Rf → Env → Prop) → XQ → Prop} [ha : VA K B E t wa] : VE K B E (tCallQ sp t) (vCallQ wf wa) where
  run := fun {as γ σ G H Q Qv Xv} S h k kx => by
    refine ha.run S h (fun rs γ1 as1 vs G1 H1 p1 g1 S1 rr1 q1 => ?_) kx
    exact hf.run S1 rr1 q1 (k.mono p1 g1) kxno
end
section
variable {P : Program} {w : World} {K : PySem.W.Frag} {mg : Str → Option Value} {base : Heap}
theorem okVQ {x qual : Str} {st : Stmt} {f : Addr} {fd : FuncData} {N ps : List Str} {k : Nat} {ks : List Bool} {fv : VSp} (F : Fun K x qual st f fd) (S : FnScope N ps (defScope st)) (hk : ks.length = ps.length) (hN : ps.length ≤ N.length)
    (body : ∀ (cdv : Value) (A : Around) (outer : List PySem.Env) (s : Shared) (H : Hp) (p : Addr × Obj), L2H.RoomH k (A.deeper (envOfC qual (defScope st) s.heap.objs.size f cdv)) →
      ∃ t, PSs (L2H.cxH CX0 P w K mg base N qual (defScope st) f cdv A outer s H E0 p).nox (defBody st) t ∧ ∃ wv, (∀ B : Bs, VS K B (fun _ => E0) t wv) ∧ ∀ (ts : List T) (Qv : Rt → List T → Prop) (Xv : VErr → List T → Prop), fv ts Qv Xv → wv (env0 ks ts (N.length - ps.length)) (endsV Qv)) :
    FnQ P w K mg base (k + 1) f fd ps (fun _ => vsp K ks fv) := by
  refine XR.okQ F S (fun p vs H Q E h => ?_) fun cdv A outer s H vs Q p hr h => ?_
  · obtain ⟨G, ts, Qv, Xv, _, ar, _⟩ := h
    exact ar.len.trans hk
  · obtain ⟨t, hp, wv, hv, go⟩ := body cdv A outer s H p hr
    obtain ⟨G, ts, Qv, Xv, vw, ar, nd, hf, kr, kx⟩ := h
    refine ⟨t, hp, ?_⟩
    have hl : vs.length = ps.length := ar.len.trans hk
    have S0 := start_ok (N := N) vw ar nd (by omega)
    have q := go ts Qv Xv hf
    rw [← hl] at q
    refine (hv _).run S0 q ⟨fun γ' as' σ' G' H' _ _ S' z => ?_, fun _ _ _ _ _ _ _ _ z => z.elim, fun _ _ _ _ _ _ _ _ z => z.elim, fun σ' r γ' as' v G' H' _ _ S' rr z => ?_, fun σ' => kxno⟩
    · obtain ⟨o, f, z⟩ := fin_of S' z
      exact kr (.val .non) _ _ _ _ f Rp.non z
    · obtain ⟨rt, o, f, rr, z⟩ := rt_of S' rr z
      exact kr _ _ _ _ _ f rr z
/-! ### a def that is handed the handled error -/
def vspE (K : PySem.W.Frag) (fv : Addr → List (Str × T) → (T → Prop) → Prop) : SpQ := fun p vs H Q _ => ∃ (cls : Value) (d : Option Addr) (D : Addr) (gs : List (Str × T)) (G : Hp) (Qv : T → Prop), vs = [.ref p.1] ∧ Zc cls d p.2 ∧ (∃ us, p.2.data = .fields us) ∧ cls = .ref D ∧ ErrF K G d gs ∧ Same G H ∧ fv D gs Qv ∧
  ∀ (t : T) (v : V) (H' : Hp), Same H H' → (∀ G' : Hp, Rp K G' v t) → Qv t → Q v H'
def envE (D : Addr) (gs : List (Str × T)) (more : Nat) : Env := ⟨0, some (.err D gs) :: nones more, []⟩
theorem okVE {x qual : Str} {st : Stmt} {f : Addr} {fd : FuncData} {N : List Str} {pn : Str} {k : Nat} {fv : Addr → List (Str × T) → (T → Prop) → Prop} (F : Fun K x qual st f fd) (S : FnScope N [pn] (defScope st)) (hN : 1 ≤ N.length)
    (body : ∀ (cdv : Value) (A : Around) (outer : List PySem.Env) (s : Shared) (H : Hp) (p : Addr × Obj) (cls : Value) (d : Option Addr), Zc cls d p.2 → (∃ us, p.2.data = .fields us) → L2H.RoomH k (A.deeper (envOfC qual (defScope st) s.heap.objs.size f cdv)) →
      ∃ t, PSs (L2H.cxH CX0 P w K mg base N qual (defScope st) f cdv A outer s H E0 p).nox (defBody st) t ∧ ∃ wv, (∀ B : Bs, VS K (B.hot p.1 cls d) (fun _ => E0) t wv) ∧ ∀ (D : Addr) (gs : List (Str × T)) (Qv : T → Prop), fv D gs Qv → wv (envE D gs (N.length - 1)) (endsV fun rt _ => ∃ t, rt = .val t ∧ flatT t = true ∧ Qv t)) :
    FnQ P w K mg base (k + 1) f fd [pn] (vspE K fv) := by
  refine XR.okQ F S (fun p vs H Q E h => ?_) fun cdv A outer s H vs Q p hr h => ?_
  · obtain ⟨_, _, _, _, _, _, rfl, _⟩ := h
    rfl
  · obtain ⟨cls, d, D, gs, G, Qv, rfl, hz, hf, rfl, er, vw, hv0, kr⟩ := h
    obtain ⟨t, hp, wv, hv, go⟩ := body cdv A outer s H p (.ref D) d hz hf hr
    refine ⟨t, hp, ?_⟩
    have S0 : StR K (Bs.hot ⟨G, H, [], (0, .none, none)⟩ p.1 (.ref D) d) [] (envE D gs (N.length - 1)) (L2.start N [.ref p.1]) G H := by
      refine ⟨vw, Same.refl _, fun a _ h => h, fun a o e _ => e, rfl, List.prefix_refl _, rfl, .nil, fun _ _ e => (by cases e), fun _ _ _ e => (by cases e), ?_, fun i r e => ?_⟩
      · show (L2.start N [V.ref p.1]).length = (some (Rf.err D gs) :: nones (N.length - 1)).length
        unfold L2.start
        have h2 : (some (Rf.err D gs) :: nones (N.length - 1)).length = N.length - 1 + 1 := by rw [List.length_cons, nones_len]
        rw [h2, List.length_append, List.length_map, List.length_replicate]
        simp
        omega
      · cases i with
        | zero => cases e; exact ⟨.ref p.1, rfl, rfl, rfl, er⟩
        | succ i => exact absurd e (nones_at _ _ _)
    refine (hv _).run S0 (go D gs Qv hv0) ⟨fun γ' as' σ' G' H' _ _ S' z => ?_, fun _ _ _ _ _ _ _ _ z => z.elim, fun _ _ _ _ _ _ _ _ z => z.elim, fun σ' r γ' as' v G' H' _ _ S' rr z => ?_, fun σ' => kxno⟩
    · obtain ⟨o, f, t, e1, fl, z⟩ := fin_of (io := []) S' z
      cases e1
      exact kr .non .non _ (fun a u e => f.hh a u e (by simp)) (fun _ => .non) z
    · obtain ⟨rt, o, f, rr, t, rfl, fl, z⟩ := rt_of (io := []) (Qv := fun rt _ => ∃ t, rt = .val t ∧ flatT t = true ∧ Qv t) S' rr z
      exact kr t v _ (fun a u e => f.hh a u e (by simp)) (fun _ => flat_any rr fl) z
end
end VL
set_option Elab.async false
set_option linter.all false
set_option maxRecDepth 100000
set_option maxHeartbeats 4000000
/-! readings over values: the rest -/
namespace VL
open PySem PySem.Spec PyProof.Rows L2 XR
theorem hu64 {n : Nat} (h : n + 65 < cLine) : n + 64 < cLine := by omega
theorem huR {k : Nat} {A : Around} (h : Room k A) : A.units + 65 < cLine := by have := h.un; omega
theorem huH {k : Nat} {A : Around} (h : L2H.RoomH k A) : A.units + 65 < cLine := by have := h.un; omega
theorem wvI {K : PySem.W.Frag} {E : L2.St → XK} {t : TS} {wv : VSW} {R : VSW → Prop} (h : ∀ B : Bs, VS K B E t wv) (k : R wv) : ∃ wv, (∀ B : Bs, VS K B E t wv) ∧ R wv := ⟨wv, h, k⟩
section
variable {K : PySem.W.Frag} {B : Bs} {E : L2.St → XK}
/-! ### is -/
def rIsNU : R2 := fun x y H Q => y = .non ∧ Q (.bl (decide (x = .non))) H
def rNotNU : R2 := fun x y H Q => y = .non ∧ Q (.bl (!decide (x = .non))) H
theorem op_isNU {X : Cx} : OpR X (compareOp .Is) rIsNU := op_isN
theorem op_notNU {X : Cx} : OpR X (compareOp .IsNot) rNotNU := op_notN
def isNon : T → Bool
  | .non => true
  | .bl _ => false
  | .int _ => false
  | .str _ => false
  | .ty _ => false
  | .cls _ => false
  | .lst _ => false
  | .tup _ => false
  | .scr _ => false
  | .rng _ _ => false
  | .obj _ _ => false
  | .dk _ => false
  | .dt _ => false
theorem isNon_rp {G : Hp} {v : V} {t : T} (r : Rp K G v t) : decide (v = .non) = isNon t := by cases r <;> rfl
def vIsN (neg : Bool) : Rf → Rf → VW := peek2 fun x y Q γ => match y with
  | .non => Q (.val (.bl (nb neg (isNon x)))) γ
  | _ => False
instance : V2 K B E rIsNU (vIsN false) where
  run := fun {as γ σ G H x y rx ry Q Qv Xv} S r1 r2 h k _ => by
    obtain ⟨t, u, e1, e2, h⟩ := peek2_rp S r1 r2 h
    split at h
    · cases e2; exact ⟨rfl, by rw [isNon_rp e1]; exact kval k S (.bl _) h⟩
    · exact h.elim
instance : V2 K B E rNotNU (vIsN true) where
  run := fun {as γ σ G H x y rx ry Q Qv Xv} S r1 r2 h k _ => by
    obtain ⟨t, u, e1, e2, h⟩ := peek2_rp S r1 r2 h
    split at h
    · cases e2; exact ⟨rfl, by rw [isNon_rp e1]; exact kval k S (.bl _) h⟩
    · exact h.elim
def vIsB (neg : Bool) : Rf → Rf → VW := peek2 fun x y Q γ => match x with
  | .bl a => match y with
    | .bl b => Q (.val (.bl (nb neg (decide (a = b))))) γ
    | _ => False
  | _ => False
instance : V2 K B E rIsB (vIsB false) where
  run := fun {as γ σ G H x y rx ry Q Qv Xv} S r1 r2 h k _ => by
    obtain ⟨t, u, e1, e2, h⟩ := peek2_rp S r1 r2 h
    split at h
    · split at h
      · cases e1; cases e2; exact ⟨_, _, rfl, rfl, kval k S (.bl _) h⟩
      · exact h.elim
    · exact h.elim
instance : V2 K B E rNotB (vIsB true) where
  run := fun {as γ σ G H x y rx ry Q Qv Xv} S r1 r2 h k _ => by
    obtain ⟨t, u, e1, e2, h⟩ := peek2_rp S r1 r2 h
    split at h
    · split at h
      · cases e1; cases e2; exact ⟨_, _, rfl, rfl, kval k S (.bl _) h⟩
      · exact h.elim
    · exact h.elim
/-! ### range as a value -/
def rRngU : List V → Hp → VK → Prop := fun vs H Q => ∃ j, vs = [V.int j] ∧ ∀ p, H p = none → Q (.ref p) (L2.upd H p (.rng 0 j))
theorem call_rngU {X : Cx} : CallR X (.type "range") rRngU := cr_range1
def vRngV : List Rf → VW := look1 fun t Q γ => match t with
  | .int j => Q (.val (.rng 0 j)) γ
  | _ => False
instance : VC K B E rRngU vRngV where
  run := fun {as γ σ G H vs rs Q Qv Xv} S r1 h k _ => by
    obtain ⟨v, t, rfl, z, h⟩ := look1_ok S r1 h
    split at h
    · rename_i j
      refine ⟨_, by rw [int_any z], fun p hp => ?_⟩
      obtain ⟨S', g⟩ := S.lay (o := .rng 0 j) hp
      exact k (.val (.rng 0 j)) _ _ _ _ _ (List.prefix_refl _) g S' (Rp.rng upd_same) h
    · exact h.elim
def rInRng : R2 := fun x y H Q => ∃ i a lo hi, x = V.int i ∧ y = V.ref a ∧ H a = some (.rng lo hi) ∧ Q (.bl (decide (lo ≤ i ∧ i < hi))) H
theorem op_inRng {X : Cx} : OpR X (compareOp .In) rInRng := op_in_rng
def vInRng : Rf → Rf → VW := peek2 fun x y Q γ => match x with
  | .int i => match y with
    | .rng lo hi => Q (.val (.bl (decide (lo ≤ i ∧ i < hi)))) γ
    | _ => False
  | _ => False
instance : V2 K B E rInRng vInRng where
  run := fun {as γ σ G H x y rx ry Q Qv Xv} S r1 r2 h k _ => by
    obtain ⟨t, u, e1, e2, h⟩ := peek2_rp S r1 r2 h
    split at h
    · split at h
      · cases e1
        cases e2 with | rng e => exact ⟨_, _, _, _, rfl, rfl, e, kval k S (.bl _) h⟩
      · exact h.elim
    · exact h.elim
/-! ### list(range(..)) -/
class VR (K : PySem.W.Frag) (B : Bs) (E : L2.St → XK) (t : L2.St → Hp → (Int → Int → Hp → Prop) → Prop) (w : outParam (Env → (Int → Int → Env → Prop) → XQ → Prop)) : Prop where
  run : ∀ {as : List Addr} {γ : Env} {σ : L2.St} {G H : Hp} {Q : Int → Int → Hp → Prop} {Qv : Int → Int → Env → Prop} {Xv : XQ}, StR K B as γ σ G H → w γ Qv Xv →
    (∀ (i j : Int) (γ' : Env) (as' : List Addr) (G' H' : Hp), as <+: as' → Same G G' → StR K B as' γ' σ G' H' → Qv i j γ' → Q i j H') → KontX K B as σ G (E σ) Xv → t σ H Q
def vRg1 (wa : VW) : Env → (Int → Int → Env → Prop) → XQ → Prop := fun γ Q X => wa γ (fun r γ1 => peek r γ1 fun t => match t with
  | .int j => Q 0 j γ1
  | _ => False) X
def vRg2 (wa wb : VW) : Env → (Int → Int → Env → Prop) → XQ → Prop := fun γ Q X => wa γ (fun r γ1 => peek r γ1 fun t => match t with
  | .int i => wb γ1 (fun r γ2 => peek r γ2 fun t => match t with
    | .int j => Q i j γ2
    | _ => False) X
  | _ => False) X
instance {ta : TE} {wa : VW} [ha : VE K B E ta wa] : VR K B E (tRg1 ta) (vRg1 wa) where
  run := fun {as γ σ G H Q Qv Xv} S h k kx => by
    refine ha.run S h (fun r1 γ1 as1 v1 G1 H1 p1 g1 S1 rr1 q1 => ?_) kx
    obtain ⟨t, q, z⟩ := peek_ok S1 rr1 q1
    split at q
    · exact ⟨_, int_any z, k _ _ _ _ _ _ p1 g1 S1 q⟩
    · exact q.elim
instance {ta tb : TE} {wa wb : VW} [ha : VE K B E ta wa] [hb : VE K B E tb wb] : VR K B E (tRg2 ta tb) (vRg2 wa wb) where
  run := fun {as γ σ G H Q Qv Xv} S h k kx => by
    refine ha.run S h (fun r1 γ1 as1 v1 G1 H1 p1 g1 S1 rr1 q1 => ?_) kx
    obtain ⟨t, q, z⟩ := peek_ok S1 rr1 q1
    split at q
    · refine hb.run S1 q (fun r2 γ2 as2 v2 G2 H2 p2 g2 S2 rr2 q2 => ?_) (kx.mono p1 g1)
      obtain ⟨t2, q2, z2⟩ := peek_ok S2 rr2 q2
      split at q2
      · exact ⟨_, _, int_any z, int_any z2, k _ _ _ _ _ _ (p1.trans p2) (g1.trans g2) S2 q2⟩
      · exact q2.elim
    · exact q.elim
theorem rgV_rp {G : Hp} (a b : Int) : RpAll K G (rgV a b) (rngT a (b - a).toNat) := by
  have aux : ∀ (l : List Nat), RpAll K G (l.map fun i => V.int (a + (i : Nat))) (l.map fun i => T.int (a + (i : Nat))) := fun l => by
    induction l with
    | nil => exact .nil
    | cons x r ih => exact .cons (.int _) ih
  exact aux _
def vLstRg (wr : Env → (Int → Int → Env → Prop) → XQ → Prop) : VW := fun γ Q X => wr γ (fun i j γ1 => RgOk i j ∧ γ1.new (.lst (rngT i (j - i).toNat)) Q) X
def vTupRg (wr : Env → (Int → Int → Env → Prop) → XQ → Prop) : VW := fun γ Q X => wr γ (fun i j γ1 => RgOk i j ∧ Q (.val (.tup (rngT i (j - i).toNat))) γ1) X
instance {t : L2.St → Hp → (Int → Int → Hp → Prop) → Prop} {wr : Env → (Int → Int → Env → Prop) → XQ → Prop} [hr : VR K B E t wr] : VE K B E (tLstRg t) (vLstRg wr) where
  run := fun {as γ σ G H Q Qv Xv} S h k kx => by
    refine hr.run S h (fun i j γ1 as1 G1 H1 p1 g1 S1 q1 => ?_) kx
    exact ⟨q1.1, fun q hq => knew (k.mono p1 g1) S1 (rgV_rp i j) q1.2 hq⟩
instance {t : L2.St → Hp → (Int → Int → Hp → Prop) → Prop} {wr : Env → (Int → Int → Env → Prop) → XQ → Prop} [hr : VR K B E t wr] : VE K B E (tTupRg t) (vTupRg wr) where
  run := fun {as γ σ G H Q Qv Xv} S h k kx => by
    refine hr.run S h (fun i j γ1 as1 G1 H1 p1 g1 S1 q1 => ?_) kx
    exact ⟨q1.1, fun q hq => ktup (k.mono p1 g1) S1 (rgV_rp i j) q1.2 hq⟩
/-! ### all, any, sum, max, min -/
theorem bls_inv {G : Hp} : ∀ {vs : List V} {bs : List Bool}, RpAll K G vs (bs.map T.bl) → vs = bs.map V.bl
  | _, [], .nil => rfl
  | _, b :: bs, .cons a r => by cases a; rw [bls_inv r]; rfl
theorem ints_inv {G : Hp} : ∀ {vs : List V} {bs : List Int}, RpAll K G vs (bs.map T.int) → vs = bs.map V.int
  | _, [], .nil => rfl
  | _, b :: bs, .cons a r => by cases a; rw [ints_inv r]; rfl
def vAllAny (f : List Bool → Bool) : List Rf → VW := look1 fun t Q γ => match t with
  | .lst ts => ∃ bs : List Bool, ts = bs.map T.bl ∧ Q (.val (.bl (f bs))) γ
  | _ => False
instance : VC K B E (rAll K) (vAllAny fun bs => bs.all id) where
  run := fun {as γ σ G H vs rs Q Qv Xv} S r1 h k _ => by
    obtain ⟨v, t, rfl, z, h⟩ := look1_ok S r1 h
    split at h
    · obtain ⟨bs, rfl, h⟩ := h
      obtain ⟨a, acc, rfl, e, rp⟩ := lst_any S z
      exact ⟨a, bs, rfl, by rw [← bls_inv rp]; exact SqL.of e, kval k S (.bl _) h⟩
    · exact h.elim
instance : VC K B E (rAny K) (vAllAny fun bs => bs.any id) where
  run := fun {as γ σ G H vs rs Q Qv Xv} S r1 h k _ => by
    obtain ⟨v, t, rfl, z, h⟩ := look1_ok S r1 h
    split at h
    · obtain ⟨bs, rfl, h⟩ := h
      obtain ⟨a, acc, rfl, e, rp⟩ := lst_any S z
      exact ⟨a, bs, rfl, by rw [← bls_inv rp]; exact SqL.of e, kval k S (.bl _) h⟩
    · exact h.elim
def vSum : List Rf → VW := look1 fun t Q γ => match t with
  | .lst ts => ∃ ns : List Int, ts = ns.map T.int ∧ Q (.val (.int ns.sum)) γ
  | _ => False
instance : VC K B E (rSum K) vSum where
  run := fun {as γ σ G H vs rs Q Qv Xv} S r1 h k _ => by
    obtain ⟨v, t, rfl, z, h⟩ := look1_ok S r1 h
    split at h
    · obtain ⟨bs, rfl, h⟩ := h
      obtain ⟨a, acc, rfl, e, rp⟩ := lst_any S z
      exact ⟨a, bs, rfl, by rw [← ints_inv rp]; exact SqL.of e, kval k S (.int _) h⟩
    · exact h.elim
def vMx (le : Int → Int → Prop) : List Rf → VW := look1 fun t Q γ => seqT t fun _ ts => ∃ ns : List Int, ts = ns.map T.int ∧ 0 < ns.length ∧ ∀ m, m ∈ ns → (∀ y, y ∈ ns → le y m) → Q (.val (.int m)) γ
instance : VC K B E (rMaxQ K) (vMx fun y m => y ≤ m) where
  run := fun {as γ σ G H vs rs Q Qv Xv} S r1 h k _ => by
    obtain ⟨v, t, rfl, z, h⟩ := look1_ok S r1 h
    obtain ⟨b, ts, a, acc, rfl, sq, rp, ⟨ns, rfl, h0, h⟩, _⟩ := seq_any S z h
    exact ⟨a, ns, rfl, by rw [← ints_inv rp]; exact sq.or, h0, fun m h1 h2 => kval k S (.int _) (h m h1 h2)⟩
instance : VC K B E (rMinQ K) (vMx fun y m => m ≤ y) where
  run := fun {as γ σ G H vs rs Q Qv Xv} S r1 h k _ => by
    obtain ⟨v, t, rfl, z, h⟩ := look1_ok S r1 h
    obtain ⟨b, ts, a, acc, rfl, sq, rp, ⟨ns, rfl, h0, h⟩, _⟩ := seq_any S z h
    exact ⟨a, ns, rfl, by rw [← ints_inv rp]; exact sq.or, h0, fun m h1 h2 => kval k S (.int _) (h m h1 h2)⟩
/-! ### walking a text -/
/-- x, y = a, b -/
instance {i j : Nat} {ta : TA} {wa : Env → (List Rf → Env → Prop) → XQ → Prop} [ha : VA K B E ta wa] : VS K B E (tPar i j ta) (vPar i j wa) where
  run := fun {as γ σ G H D Dv} S h k => by
    refine ha.run S h (fun rs γ1 as1 vs G1 H1 p1 g1 S1 rr1 q1 => ?_) (k.ex σ)
    split at q1
    · cases rr1 with | cons a b =>
      cases b with | cons a2 b =>
      cases b
      refine ⟨_, _, rfl, ?_⟩
      exact k.nx _ _ _ _ _ p1 g1 ((S1.store a i).store a2 j) q1
    · exact q1.elim
/-- a test's answer is another's -/
theorem br_nb {c : Bool} {P Q : Prop} (h : br c Q P) : br (!c) P Q := by cases c <;> exact h
end
end VL
set_option Elab.async false
set_option linter.all false
set_option maxRecDepth 100000
set_option maxHeartbeats 4000000
/-! loops over values: how they are told -/
namespace VL
open PySem PySem.Spec PyProof.Rows L2 XR
/-! ### from one telling of the state to another, reckoned -/
def fzAt (γ : Env) (k : Nat) : Option Env := match nth γ.mem k with
  | some (.mu t) => match Nat.ble γ.nio k with
    | true => some { γ with mem := γ.mem.set k (.fz t) }
    | false => none
  | some (.fz _) => some γ
  | none => none
def fzAll : List Nat → Env → Option Env
  | [], γ => some γ
  | k :: r, γ => match fzAt γ k with
    | some γ1 => fzAll r γ1
    | none => none
/-- the open objects that are settled in γ' -/
def toFz : List (Option Rf) → List (Option Rf) → List Nat
  | some (.ref k) :: l, some (.val _) :: l' => k :: toFz l l'
  | _ :: l, _ :: l' => toFz l l'
  | _, _ => []
def toFzM : Nat → List MO → List MO → List Nat
  | n, .mu _ :: l, .fz _ :: l' => n :: toFzM (n + 1) l l'
  | n, _ :: l, _ :: l' => toFzM (n + 1) l l'
  | _, _, _ => []
def fitSl (mem : List MO) (n : Nat) : List (Option Rf) → List (Option Rf) → Option (List (Option Rf))
  | [], [] => some []
  | _ :: l, none :: l' => match fitSl mem n l l' with
    | some r => some (none :: r)
    | none => none
  | some (.ref k) :: l, some (.val _) :: l' => match nth mem k with
    | some (.fz t) => match fitSl mem n l l' with
      | some r => some (some (.val t) :: r)
      | none => none
    | _ => none
  | some (.ref k) :: l, some (.ref _) :: l' => match Nat.blt k n with
    | true => match fitSl mem n l l' with
      | some r => some (some (.ref k) :: r)
      | none => none
    | false => none
  | some (.val t) :: l, some (.val _) :: l' => match fitSl mem n l l' with
    | some r => some (some (.val t) :: r)
    | none => none
  | some (.err D gs) :: l, some (.err _ _) :: l' => match fitSl mem n l l' with
    | some r => some (some (.err D gs) :: r)
    | none => none
  | _, _ => none
def normTo (γ γ' : Env) : Option Env := match fzAll (toFz γ.sl γ'.sl ++ toFzM 0 γ.mem γ'.mem) γ with
  | some γ1 => match fitSl γ1.mem γ'.mem.length γ1.sl γ'.sl with
    | some sl => match Nat.ble γ1.nio γ'.mem.length with
      | true => some ⟨γ1.nio, sl, γ1.mem.take γ'.mem.length⟩
      | false => none
    | none => none
  | none => none
theorem Le.trans {n0 : Nat} {γ γ1 γ2 : Env} (h : Le n0 γ γ1) (k : Le n0 γ1 γ2) : Le n0 γ γ2 := by
  induction h with
  | refl γ => exact k
  | unset i _ ih => exact .unset i (ih k)
  | freeze j e hk _ ih => exact .freeze j e hk (ih k)
  | toVal i e1 e2 _ ih => exact .toVal i e1 e2 (ih k)
  | cut n h1 h2 h3 _ ih => exact .cut n h1 h2 h3 (ih k)
theorem fzAt_le {n0 : Nat} {γ γ' : Env} {k : Nat} (h : fzAt γ k = some γ') : Le n0 γ γ' := by
  unfold fzAt at h
  rw [nth_eq] at h
  split at h
  · rename_i t e
    split at h
    · rename_i hb
      cases h
      exact .freeze k e (by simpa [Nat.ble_eq] using hb) (.refl _)
    · cases h
  · cases h; exact .refl _
  · cases h
theorem fzAll_le {n0 : Nat} : ∀ {ks : List Nat} {γ γ' : Env}, fzAll ks γ = some γ' → Le n0 γ γ'
  | [], γ, γ', h => by cases h; exact .refl _
  | k :: r, γ, γ', h => by
    unfold fzAll at h
    split at h
    · rename_i γ1 e
      exact (fzAt_le e).trans (fzAll_le h)
    · cases h
theorem set_len {α : Type} (pre : List α) (x y : α) (l : List α) : (pre ++ x :: l).set pre.length y = pre ++ y :: l := by
  rw [List.set_append_right _ _ (Nat.le_refl _), Nat.sub_self]
  rfl
theorem get_len {α : Type} (pre : List α) (x : α) (l : List α) : (pre ++ x :: l)[pre.length]? = some x := by
  rw [List.getElem?_append_right (Nat.le_refl _), Nat.sub_self]; rfl
/-- slot by slot -/
theorem fitSl_le {n0 n nio : Nat} {mem : List MO} : ∀ {l l' r : List (Option Rf)} {pre : List (Option Rf)}, fitSl mem n l l' = some r → Le n0 ⟨nio, pre ++ l, mem⟩ ⟨nio, pre ++ r, mem⟩ ∧ ∀ (i k : Nat), r[i]? = some (some (.ref k)) → k < n
  | [], [], r, pre, h => by cases h; exact ⟨.refl _, fun i k e => by cases e⟩
  | [], _ :: _, r, pre, h => by cases h
  | x :: l, none :: l', r, pre, h => by
    have h : (match fitSl mem n l l' with | some r => some (none :: r) | none => none) = some r := by
      cases x with
      | none => exact h
      | some y => cases y <;> exact h
    split at h
    · rename_i r' e
      cases h
      obtain ⟨h1, h2⟩ := fitSl_le (nio := nio) (n0 := n0) (pre := pre ++ [none]) e
      refine ⟨.unset pre.length ?_, fun i k e => ?_⟩
      · show Le n0 ⟨nio, (pre ++ x :: l).set pre.length none, mem⟩ _
        rw [set_len]
        simpa using h1
      · cases i with
        | zero => cases e
        | succ i => exact h2 i k e
    · cases h
  | some (.ref j) :: l, some (.val _) :: l', r, pre, h => by
    unfold fitSl at h
    rw [nth_eq] at h
    split at h
    · rename_i t em
      split at h
      · rename_i r' e
        cases h
        obtain ⟨h1, h2⟩ := fitSl_le (nio := nio) (n0 := n0) (pre := pre ++ [some (.val t)]) e
        refine ⟨.toVal (t := t) (k := j) pre.length (get_len _ _ _) em ?_, fun i k e => ?_⟩
        · show Le n0 ⟨nio, (pre ++ some (.ref j) :: l).set pre.length (some (.val t)), mem⟩ _
          rw [set_len]
          simpa using h1
        · cases i with
          | zero => cases e
          | succ i => exact h2 i k e
      · cases h
    · cases h
  | some (.ref j) :: l, some (.ref _) :: l', r, pre, h => by
    unfold fitSl at h
    split at h
    · rename_i hb
      split at h
      · rename_i r' e
        cases h
        obtain ⟨h1, h2⟩ := fitSl_le (nio := nio) (n0 := n0) (pre := pre ++ [some (.ref j)]) e
        refine ⟨by simpa using h1, fun i k e => ?_⟩
        cases i with
        | zero => cases e; simpa [Nat.blt_eq] using hb
        | succ i => exact h2 i k e
      · cases h
    · cases h
  | some (.val t) :: l, some (.val _) :: l', r, pre, h => by
    unfold fitSl at h
    split at h
    · rename_i r' e
      cases h
      obtain ⟨h1, h2⟩ := fitSl_le (nio := nio) (n0 := n0) (pre := pre ++ [some (.val t)]) e
      refine ⟨by simpa using h1, fun i k e => ?_⟩
      cases i with
      | zero => cases e
      | succ i => exact h2 i k e
    · cases h
  | some (.err D gs) :: l, some (.err _ _) :: l', r, pre, h => by
    unfold fitSl at h
    split at h
    · rename_i r' e
      cases h
      obtain ⟨h1, h2⟩ := fitSl_le (nio := nio) (n0 := n0) (pre := pre ++ [some (.err D gs)]) e
      refine ⟨by simpa using h1, fun i k e => ?_⟩
      cases i with
      | zero => cases e
      | succ i => exact h2 i k e
    · cases h
  | none :: _, [], _, _, h => by cases h
  | some (.ref _) :: _, [], _, _, h => by cases h
  | some (.val _) :: _, [], _, _, h => by cases h
  | some (.err _ _) :: _, [], _, _, h => by cases h
  | none :: _, some (.ref _) :: _, _, _, h => by cases h
  | none :: _, some (.val _) :: _, _, _, h => by cases h
  | none :: _, some (.err _ _) :: _, _, _, h => by cases h
  | some (.ref _) :: _, some (.err _ _) :: _, _, _, h => by cases h
  | some (.val _) :: _, some (.err _ _) :: _, _, _, h => by cases h
  | some (.val _) :: _, some (.ref _) :: _, _, _, h => by cases h
  | some (.err _ _) :: _, some (.ref _) :: _, _, _, h => by cases h
  | some (.err _ _) :: _, some (.val _) :: _, _, _, h => by cases h
theorem Le.to {n0 : Nat} {γ γ' : Env} (h : normTo γ γ' = some γ') (hn : n0 ≤ γ'.mem.length) : Le n0 γ γ' := by
  unfold normTo at h
  split at h
  · rename_i γ1 e1
    split at h
    · rename_i sl e2
      split at h
      · rename_i hb
        have h := Option.some.inj h
        obtain ⟨nio1, sl1, mem1⟩ := γ1
        obtain ⟨l2, f2⟩ := fitSl_le (n0 := n0) (nio := nio1) (pre := []) e2
        refine (fzAll_le e1).trans (l2.trans ?_)
        refine .cut γ'.mem.length hn (by simpa [Nat.ble_eq] using hb) f2 ?_
        have h : (⟨nio1, sl, mem1.take γ'.mem.length⟩ : Env) = γ' := h
        show Le n0 ⟨nio1, sl, mem1.take γ'.mem.length⟩ γ'
        rw [h]
        exact .refl _
      · cases h
    · cases h
  · cases h
/-! ### for -/
/-- the state is told by E at some s of which P holds -/
@[irreducible] def Nx {β : Type} (n0 : Nat) (E : β → Env) (P : β → Prop) (γ4 : Env) : Prop := ∃ γ5, Le n0 γ4 γ5 ∧ ∃ s, γ5 = E s ∧ P s
theorem Nx.mk {β : Type} {n0 : Nat} {E : β → Env} {P : β → Prop} {γ4 : Env} (s : β) (l : Le n0 γ4 (E s)) (p : P s) : Nx n0 E P γ4 := by
  unfold Nx
  exact ⟨E s, l, s, rfl, p⟩
section
variable {n0 : Nat} {γ1 : Env} {step : T → Env → (Env → Prop) → Prop} {done : Env → Prop} {β : Type}
theorem for_ts {ts : List T} (E : β → Env) (P : Nat → β → Prop) (h0 : Nx n0 E (P 0) γ1)
    (hs : ∀ i t s, ts[i]? = some t → P i s → step t (E s) (Nx n0 E (P (i + 1)))) (hd : ∀ s, P ts.length s → done (E s)) : ForI (.fix ts) n0 γ1 step done := by
  unfold Nx at h0 hs
  refine ⟨fun i γ => ∃ s, γ = E s ∧ P i s, h0, fun _ _ _ => trivial, fun i t γ2 e h => ?_, fun γ2 h => ?_⟩
  · obtain ⟨s, rfl, p⟩ := h
    exact hs i t s e p
  · obtain ⟨s, rfl, p⟩ := h
    exact hd s p
theorem for_map {α : Type} {xs : List α} {f : α → T} (E : β → Env) (P : Nat → β → Prop) (h0 : Nx n0 E (P 0) γ1)
    (hs : ∀ i x s, xs[i]? = some x → P i s → step (f x) (E s) (Nx n0 E (P (i + 1)))) (hd : ∀ s, P xs.length s → done (E s)) : ForI (.fix (xs.map f)) n0 γ1 step done := by
  refine for_ts E P h0 (fun i t s e p => ?_) fun s p => hd s (by rw [List.length_map] at p; exact p)
  rw [List.getElem?_map] at e
  cases ex : xs[i]? with
  | none => rw [ex] at e; cases e
  | some x => rw [ex] at e; cases e; exact hs i x s ex p
theorem for_rng {lo : Int} {n : Nat} (E : β → Env) (P : Nat → β → Prop) (h0 : Nx n0 E (P 0) γ1)
    (hs : ∀ i s, i < n → P i s → step (.int (lo + (i : Nat))) (E s) (Nx n0 E (P (i + 1)))) (hd : ∀ s, P n s → done (E s)) : ForI (.fix (rngT lo n)) n0 γ1 step done := by
  refine for_ts E P h0 (fun i t s e p => ?_) fun s p => hd s (by rw [rngT_len] at p; exact p)
  obtain ⟨h, rfl⟩ := rngT_at e
  exact hs i s h p
/-- for i, x in enumerate(..) -/
theorem for_enum {α : Type} {xs : List α} {f : α → T} {n : Int} (E : β → Env) (P : Nat → β → Prop) (h0 : Nx n0 E (P 0) γ1)
    (hs : ∀ i x s, xs[i]? = some x → P i s → step (.tup [.int (n + (i : Nat)), f x]) (E s) (Nx n0 E (P (i + 1)))) (hd : ∀ s, P xs.length s → done (E s)) : ForI (.fix (enumT n (xs.map f))) n0 γ1 step done := by
  refine for_ts E P h0 (fun i t s e p => ?_) fun s p => hd s (by rw [enumT_len, List.length_map] at p; exact p)
  rw [enumT_at, List.getElem?_map] at e
  cases ex : xs[i]? with
  | none => rw [ex] at e; cases e
  | some x => rw [ex] at e; cases e; exact hs i x s ex p
theorem for_zip {α α' : Type} {xs : List α} {ys : List α'} {f : α → T} {g : α' → T} (E : β → Env) (P : Nat → β → Prop) (h0 : Nx n0 E (P 0) γ1)
    (hs : ∀ i x y s, xs[i]? = some x → ys[i]? = some y → P i s → step (.tup [f x, g y]) (E s) (Nx n0 E (P (i + 1)))) (hd : ∀ s, P (min xs.length ys.length) s → done (E s)) : ForI (.fix (zipT (xs.map f) (ys.map g))) n0 γ1 step done := by
  refine for_ts E P h0 (fun i t s e p => ?_) fun s p => hd s (by rw [zipT_len, List.length_map, List.length_map] at p; exact p)
  obtain ⟨a, b, h1, h2, rfl⟩ := zipT_inv e
  rw [List.getElem?_map] at h1 h2
  cases ex : xs[i]? with
  | none => rw [ex] at h1; cases h1
  | some x =>
    cases ey : ys[i]? with
    | none => rw [ey] at h2; cases h2
    | some y => rw [ex] at h1; rw [ey] at h2; cases h1; cases h2; exact hs i x y s ex ey p
/-- over an open list that stands as it is while the loop runs -/
theorem for_live {α : Type} {xs : List α} {f : α → T} {k : Nat} (E : β → Env) (P : Nat → β → Prop) (hon : ∀ s, nth (E s).mem k = some (.mu (.lst (xs.map f)))) (h0 : Nx n0 E (P 0) γ1)
    (hs : ∀ i x s, xs[i]? = some x → P i s → step (f x) (E s) (Nx n0 E (P (i + 1)))) (hd : ∀ s, P xs.length s → done (E s)) : ForI (.live k (xs.map f)) n0 γ1 step done := by
  unfold Nx at h0 hs
  refine ⟨fun i γ => ∃ s, γ = E s ∧ P i s, h0, fun i γ2 h => ?_, fun i t γ2 e h => ?_, fun γ2 h => ?_⟩
  · obtain ⟨s, rfl, p⟩ := h
    exact hon s
  · obtain ⟨s, rfl, p⟩ := h
    have e : (xs.map f)[i]? = some t := e
    rw [List.getElem?_map] at e
    cases ex : xs[i]? with
    | none => rw [ex] at e; cases e
    | some x => rw [ex] at e; cases e; exact hs i x s ex p
  · obtain ⟨s, rfl, p⟩ := h
    have p : P (xs.map f).length s := p
    rw [List.length_map] at p
    exact hd s p
/-! ### while -/
theorem while_st {step : Env → (Env → Prop) → Prop} (E : β → Env) (P : Nat → β → Prop) (h0 : ∃ m, Nx n0 E (P m) γ1) (hs : ∀ m s, P m s → step (E s) (fun γ4 => ∃ m', m' < m ∧ Nx n0 E (P m') γ4))
    (mono : ∀ (γ : Env) (N N' : Env → Prop), (∀ γ4, N γ4 → N' γ4) → step γ N → step γ N') : WhileI n0 γ1 step := by
  unfold Nx at h0 hs
  obtain ⟨m, γ5, l, s, rfl, p⟩ := h0
  refine ⟨fun m γ => ∃ s, γ = E s ∧ P m s, ⟨m, E s, l, s, rfl, p⟩, fun m γ2 h => ?_⟩
  obtain ⟨s, rfl, p⟩ := h
  exact mono _ _ _ (fun γ4 h => let ⟨m', hm, γ5, l, s', e, q⟩ := h; ⟨γ5, m', l, hm, s', e, q⟩) (hs m s p)
/-- the end of a turn of a while -/
@[irreducible] def Nw (n0 : Nat) (E : β → Env) (P : Nat → β → Prop) (m : Nat) (γ4 : Env) : Prop := ∃ γ5 m', Le n0 γ4 γ5 ∧ m' < m ∧ ∃ s, γ5 = E s ∧ P m' s
theorem Nw.mk {E : β → Env} {P : Nat → β → Prop} {m : Nat} {γ4 : Env} (s : β) (m' : Nat) (l : Le n0 γ4 (E s)) (h : m' < m) (p : P m' s) : Nw n0 E P m γ4 := by
  unfold Nw
  exact ⟨E s, m', l, h, s, rfl, p⟩
theorem while_ts {step : Env → (Env → Prop) → Prop} (E : β → Env) (P : Nat → β → Prop) (m : Nat) (h0 : Nx n0 E (P m) γ1) (hs : ∀ m s, P m s → step (E s) (Nw n0 E P m)) : WhileI n0 γ1 step := by
  unfold Nx at h0
  unfold Nw at hs
  obtain ⟨γ5, l, s, rfl, p⟩ := h0
  refine ⟨fun m γ => ∃ s, γ = E s ∧ P m s, ⟨m, E s, l, s, rfl, p⟩, fun m γ2 h => ?_⟩
  obtain ⟨s, rfl, p⟩ := h
  exact hs m s p
/-! ### behind a statement -/
theorem cut_st {fst : (Env → Prop) → Prop} {snd : Env → Prop} (E : β → Env) (P : β → Prop) (h1 : fst (Nx n0 E P)) (h2 : ∀ s, P s → snd (E s)) : CutI n0 fst snd := by
  unfold Nx at h1
  refine ⟨fun γ => ∃ s, γ = E s ∧ P s, h1, fun γ2 h => ?_⟩
  obtain ⟨s, rfl, p⟩ := h
  exact h2 s p
end
/-! ### comprehensions -/
section
variable {γ1 : Env} {vs : List Nat} {step : T → Env → (Env → Prop) → Prop} {Q : RQ} {β α : Type} {xs : List α} {f : α → T}
/-- the state with the new list -/
def EL (γ1 : Env) (vs : List Nat) (out : List T) : Env := (γ1.push (.mu (.lst out))).wipe vs
@[irreducible] def NL (γ1 : Env) (vs : List Nat) (I : List T → Prop) (γ4 : Env) : Prop := ∃ γ5, Le (γ1.mem.length + 1) (γ4.wipe vs) γ5 ∧ ∃ out, γ5 = EL γ1 vs out ∧ I out
theorem NL.mk {I : List T → Prop} {γ4 : Env} (out : List T) (l : Le (γ1.mem.length + 1) (γ4.wipe vs) (EL γ1 vs out)) (p : I out) : NL γ1 vs I γ4 := by
  unfold NL
  exact ⟨EL γ1 vs out, l, out, rfl, p⟩
/-- only the new list changes -/
theorem lc_ts {ts : List T} (I : Nat → List T → Prop) (i0 : I 0 []) (hs : ∀ i t out, ts[i]? = some t → I i out → step t ((EL γ1 vs out).wipe vs) (NL γ1 vs (I (i + 1)))) (hd : ∀ out, I ts.length out → Q (.ref γ1.mem.length) (EL γ1 vs out)) : LcI (.fix ts) γ1 vs step Q := by
  unfold NL at hs
  refine ⟨fun i γ => ∃ out, γ = EL γ1 vs out ∧ I i out, ⟨EL γ1 vs [], .refl _, [], rfl, i0⟩, fun _ _ _ => trivial, fun i t γ2 e h => ?_, fun γ2 h => ?_⟩
  · obtain ⟨out, rfl, p⟩ := h
    exact hs i t out e p
  · obtain ⟨out, rfl, p⟩ := h
    exact hd out p
theorem take_succ_fm {γ : Type} {xs : List α} {i : Nat} {x : α} (g : α → Option γ) (e : xs[i]? = some x) : (xs.take (i + 1)).filterMap g = (xs.take i).filterMap g ++ (g x).toList := by
  rw [XR.take_one e, List.filterMap_append]
  have : [x].filterMap g = (g x).toList := by cases h : g x <;> simp [h]
  rw [this]
/-- each item gives g of it, or nothing -/
theorem lc_fm (g : α → Option T) (hs : ∀ (i : Nat) x out, xs[i]? = some x → out.length < xs.length → step (f x) ((EL γ1 vs out).wipe vs) (NL γ1 vs (fun o => o = out ++ (g x).toList))) (hd : Q (.ref γ1.mem.length) (EL γ1 vs (xs.filterMap g))) : LcI (.fix (xs.map f)) γ1 vs step Q := by
  refine lc_ts (fun i out => out = (xs.take i).filterMap g) rfl (fun i t out e h => ?_) fun out h => ?_
  · subst h
    rw [List.getElem?_map] at e
    cases ex : xs[i]? with
    | none => rw [ex] at e; cases e
    | some x =>
      rw [ex] at e
      cases e
      have := hs i x ((xs.take i).filterMap g) ex (by have := List.length_filterMap_le g (xs.take i); have := (List.getElem?_eq_some_iff.mp ex).1; rw [List.length_take] at *; omega)
      rw [take_succ_fm g ex]
      exact this
  · subst h
    rw [List.length_map, List.take_length]
    exact hd
theorem lc_map (g : α → T) (hs : ∀ (i : Nat) x out, xs[i]? = some x → out.length < xs.length → step (f x) ((EL γ1 vs out).wipe vs) (NL γ1 vs (fun o => o = out ++ [g x]))) (hd : Q (.ref γ1.mem.length) (EL γ1 vs (xs.map g))) : LcI (.fix (xs.map f)) γ1 vs step Q := by
  refine lc_fm (fun x => some (g x)) (fun i x out e h => hs i x out e h) ?_
  have : xs.filterMap (fun x => some (g x)) = xs.map g := by rw [List.filterMap_eq_map']
  rw [this]
  exact hd
theorem lc_rng {lo : Int} {n : Nat} (g : Nat → Option T) (hs : ∀ i out, i < n → out.length < n → step (.int (lo + (i : Nat))) ((EL γ1 vs out).wipe vs) (NL γ1 vs (fun o => o = out ++ (g i).toList))) (hd : Q (.ref γ1.mem.length) (EL γ1 vs ((List.range n).filterMap g))) : LcI (.fix (rngT lo n)) γ1 vs step Q := by
  refine lc_fm (xs := List.range n) (f := fun i => .int (lo + (i : Nat))) g (fun i x out e h => ?_) hd
  have hl : i < n := by have := (List.getElem?_eq_some_iff.mp e).1; simpa using this
  rw [List.getElem?_range hl] at e
  cases e
  exact hs i out hl (by rw [List.length_range] at h; exact h)
theorem lc_rngM {lo : Int} {n : Nat} (g : Nat → T) (hs : ∀ i out, i < n → out.length < n → step (.int (lo + (i : Nat))) ((EL γ1 vs out).wipe vs) (NL γ1 vs (fun o => o = out ++ [g i]))) (hd : Q (.ref γ1.mem.length) (EL γ1 vs ((List.range n).map g))) : LcI (.fix (rngT lo n)) γ1 vs step Q := by
  refine lc_rng (fun i => some (g i)) (fun i out e h => hs i out e h) ?_
  have : (List.range n).filterMap (fun i => some (g i)) = (List.range n).map g := by rw [List.filterMap_eq_map']
  rw [this]
  exact hd
/-- a state besides (draws): E s out, the new list last in its memory -/
@[irreducible] def NLs (n0 : Nat) (vs : List Nat) (E : β → Env) (P : β → Prop) (γ4 : Env) : Prop := ∃ γ5, Le n0 (γ4.wipe vs) γ5 ∧ ∃ s, γ5 = E s ∧ P s
theorem NLs.mk {n0 : Nat} {E : β → Env} {P : β → Prop} {γ4 : Env} (s : β) (l : Le n0 (γ4.wipe vs) (E s)) (p : P s) : NLs n0 vs E P γ4 := by
  unfold NLs
  exact ⟨E s, l, s, rfl, p⟩
theorem lc_st {ts : List T} (E : β → Env) (P : Nat → β → Prop) (h0 : NLs (γ1.mem.length + 1) vs E (P 0) (γ1.push (.mu (.lst []))))
    (hs : ∀ i t s, ts[i]? = some t → P i s → step t ((E s).wipe vs) (NLs (γ1.mem.length + 1) vs E (P (i + 1)))) (hd : ∀ s, P ts.length s → Q (.ref γ1.mem.length) (E s)) : LcI (.fix ts) γ1 vs step Q := by
  unfold NLs at h0 hs
  refine ⟨fun i γ => ∃ s, γ = E s ∧ P i s, h0, fun _ _ _ => trivial, fun i t γ2 e h => ?_, fun γ2 h => ?_⟩
  · obtain ⟨s, rfl, p⟩ := h
    exact hs i t s e p
  · obtain ⟨s, rfl, p⟩ := h
    exact hd s p
end
/-! ### typed values as trees: == decides -/
structure Enc {α : Type} [DecidableEq α] (f : α → T) (d : Nat) : Prop where
  eq : ∀ a b, eqT (f a) (f b) = decide (a = b)
  data : ∀ a, dataT (f a) = true
  dep : ∀ a, depT (f a) ≤ d
theorem Enc.ok {α : Type} [DecidableEq α] {f : α → T} {d : Nat} (h : Enc f d) (hd : d ≤ 64) (a : α) : okD (f a) = true := by
  unfold okD
  rw [h.data, Bool.true_and]
  exact decide_eq_true (Nat.le_trans (h.dep a) hd)
theorem encInt : Enc T.int 0 := ⟨fun a b => by show (a == b) = _; rw [Bool.eq_iff_iff]; simp, fun _ => rfl, fun _ => Nat.le_refl _⟩
theorem encStr : Enc T.str 0 := ⟨fun a b => by show (a == b) = _; rw [Bool.eq_iff_iff]; simp, fun _ => rfl, fun _ => Nat.le_refl _⟩
theorem encBl : Enc T.bl 0 := ⟨fun a b => by show (a == b) = _; rw [Bool.eq_iff_iff]; simp, fun _ => rfl, fun _ => Nat.le_refl _⟩
def eqTs (xs ys : List T) : Bool := PyData.eqvAll (toDs xs) (toDs ys)
section
variable {α : Type} [DecidableEq α] {f : α → T} {d : Nat}
theorem Enc.eqs (h : Enc f d) : ∀ xs ys : List α, eqTs (xs.map f) (ys.map f) = decide (xs = ys)
  | [], [] => rfl
  | [], y :: ys => rfl
  | x :: xs, [] => rfl
  | x :: xs, y :: ys => by
    show (eqT (f x) (f y) && eqTs (xs.map f) (ys.map f)) = _
    rw [h.eq, h.eqs xs ys, Bool.eq_iff_iff]
    simp
theorem Enc.datas (h : Enc f d) : ∀ xs : List α, dataTs (xs.map f) = true
  | [] => rfl
  | x :: xs => by show (dataT (f x) && dataTs (xs.map f)) = true; rw [h.data, h.datas xs]; rfl
theorem Enc.deps (h : Enc f d) : ∀ xs : List α, depTs (xs.map f) ≤ d
  | [] => Nat.zero_le _
  | x :: xs => by show max (depT (f x)) (depTs (xs.map f)) ≤ d; have := h.dep x; have := h.deps xs; omega
theorem Enc.list (h : Enc f d) : Enc (fun xs : List α => T.lst (xs.map f)) (d + 1) := ⟨fun a b => h.eqs a b, fun a => h.datas a, fun a => by show depTs _ + 1 ≤ _; have := h.deps a; omega⟩
theorem Enc.tupl (h : Enc f d) : Enc (fun xs : List α => T.tup (xs.map f)) (d + 1) := ⟨fun a b => h.eqs a b, fun a => h.datas a, fun a => by show depTs _ + 1 ≤ _; have := h.deps a; omega⟩
theorem Enc.pair {γ : Type} [DecidableEq γ] {g : γ → T} {e : Nat} (h : Enc f d) (k : Enc g e) : Enc (fun p : α × γ => T.tup [f p.1, g p.2]) (max d e + 1) := by
  refine ⟨fun a b => ?_, fun a => ?_, fun a => ?_⟩
  · show (eqT (f a.1) (f b.1) && (eqT (g a.2) (g b.2) && true)) = _
    rw [h.eq, k.eq, Bool.and_true, Bool.eq_iff_iff]
    obtain ⟨a1, a2⟩ := a
    obtain ⟨b1, b2⟩ := b
    simp
  · show (dataT (f a.1) && (dataT (g a.2) && true)) = true
    rw [h.data, k.data]; rfl
  · show max (depT (f a.1)) (max (depT (g a.2)) 0) + 1 ≤ _
    have := h.dep a.1
    have := k.dep a.2
    omega
theorem Enc.mem (h : Enc f d) (x : α) : ∀ xs : List α, anyT (f x) (xs.map f) = decide (x ∈ xs)
  | [] => rfl
  | y :: ys => by
    show (eqT (f y) (f x) || anyT (f x) (ys.map f)) = _
    rw [h.eq, h.mem x ys, Bool.eq_iff_iff]
    simp only [Bool.or_eq_true, decide_eq_true_eq, List.mem_cons]
    exact or_congr_left ⟨Eq.symm, Eq.symm⟩
theorem eqT_nil (ts : List T) : eqT (.lst ts) (.lst []) = ts.isEmpty := by cases ts <;> rfl
theorem eqT_scr_nil (ts : List T) : eqT (.scr ts) (.lst []) = ts.isEmpty := by cases ts <;> rfl
end
end VL
namespace VL
theorem at_map {α : Type} {f : α → T} {xs : List α} {i : Int} (h : 0 ≤ i) (h1 : i < (xs.length : Int)) : ∃ x, xs[i.toNat]? = some x ∧ atL (xs.map f) i = some (f x) := by
  obtain ⟨t, e, e2⟩ := atL_at (xs.map f) h (by rw [List.length_map]; exact h1)
  rw [List.getElem?_map] at e2
  cases ex : xs[i.toNat]? with
  | none => rw [ex] at e2; cases e2
  | some x => rw [ex] at e2; exact ⟨x, rfl, by rw [e]; exact e2.symm⟩
theorem at_mapN {α : Type} {f : α → T} {xs : List α} {n : Nat} {x : α} (h : xs[n]? = some x) : atL (xs.map f) (n : Int) = some (f x) := by
  show nth (xs.map f) n = _
  rw [nth_eq, List.getElem?_map, h]; rfl
theorem at_mapZ {α : Type} {f : α → T} {xs : List α} {i : Int} {x : α} (h0 : 0 ≤ i) (h : xs[i.toNat]? = some x) : atL (xs.map f) i = some (f x) := by
  rw [atL_nat _ h0, List.getElem?_map, h]; rfl
abbrev qI (i : Int) : Option Rf := some (.val (.int i))
abbrev qT (t : T) : Option Rf := some (.val t)
abbrev qR (k : Nat) : Option Rf := some (.ref k)
end VL
set_option Elab.async false
set_option linter.all false
set_option maxRecDepth 100000
set_option maxHeartbeats 4000000
/-! small rows -/
namespace VL
open PySem PySem.Spec PyProof.Rows L2 XR
theorem erase_map {α β : Type} (f : α → β) : ∀ (xs : List α) (k : Nat), (xs.map f).eraseIdx k = (xs.eraseIdx k).map f
  | [], _ => by simp
  | x :: r, 0 => by simp
  | x :: r, k + 1 => by simp [erase_map f r k]
theorem pop_map {α β : Type} {f : α → β} {xs : List α} {n : Nat} {y : α} (h : xs[n]? = some y) : popN (xs.map f) n = some (f y, (xs.eraseIdx n).map f) := by
  rw [popN_eq, List.getElem?_map, h, erase_map]; rfl
theorem at_of {α : Type} {xs : List α} {i : Int} (h0 : 0 ≤ i) (h1 : i < (xs.length : Int)) : ∃ x, xs[i.toNat]? = some x := ⟨_, List.getElem?_eq_getElem (show i.toNat < xs.length by omega)⟩
theorem rng_ints (n : Nat) : rngT 0 n = ((List.range n).map fun (i : Nat) => (i : Int)).map T.int := by
  unfold rngT
  rw [List.map_map]
  exact List.map_congr_left fun a _ => by simp
/-! ### readings in comprehensions: K told -/
section
variable {X : Cx} {K : PySem.W.Frag} (e : X.K = K)
include e
theorem op_eqK (hu : X.A.units + 64 < cLine) : OpR X (compareOp .Eq) (rEqD K) := e ▸ op_eqD hu
theorem op_neK (hu : X.A.units + 64 < cLine) : OpR X (compareOp .NotEq) (rNeD K) := e ▸ op_neD hu
theorem op_inK (hu : X.A.units + 65 < cLine) : OpR X (compareOp .In) (rInU K false) := e ▸ op_inU hu
theorem op_notInK (hu : X.A.units + 65 < cLine) : OpR X (compareOp .NotIn) (rInU K true) := e ▸ op_notInU hu
theorem op_addK : OpR X (binaryOp .Add) (rAddU K) := e ▸ op_addU
theorem op_mulK : OpR X (binaryOp .Mult) (rMulU K) := e ▸ op_mulU
theorem ix_seqK : IxR X (rIx K) := e ▸ ix_seq
theorem sl_anyK : SlR X (rSlU K) := e ▸ sl_any
theorem call_lenK : CallR X (.builtin "len") (rLenU K) := e ▸ call_lenU
theorem call_listK : CallR X (.type "list") (rListU K) := e ▸ call_listU
theorem call_tupK : CallR X (.type "tuple") (rTupU K) := e ▸ call_tupU
theorem call_isiK : CallR X (.builtin "isinstance") (rIsi K) := e ▸ call_isi
theorem call_isiTK : CallR X (.builtin "isinstance") (rIsiT K) := e ▸ call_isiT
theorem cr_maxK (hc : X.calm = true) : CallR X (.builtin "max") (rMaxQ K) := e ▸ cr_maxQ hc
theorem cr_minK (hc : X.calm = true) : CallR X (.builtin "min") (rMinQ K) := e ▸ cr_minQ hc
theorem cr_sumK (hc : X.calm = true) : CallR X (.builtin "sum") (rSum K) := e ▸ cr_sum hc
theorem cr_allK (hc : X.calm = true) : CallR X (.builtin "all") (rAll K) := e ▸ cr_all hc
theorem cr_anyK (hc : X.calm = true) : CallR X (.builtin "any") (rAny K) := e ▸ cr_any hc
theorem pt_truK {a : Expr} {ta : TE} (ha : PE X a ta) (he : ∀ whole, isTrue a X.env whole = (do let v ← whole; standAt a.pos; holding [v] (truthy v))) : PT X a (tTru K ta) := e ▸ pt_tru ha he
theorem pi_dynK {tg l : Expr} {tl : TE} (hl : PE X l tl) : PI X tg l (iDyn K tl) := e ▸ pi_dyn hl
theorem pi_dynLK {tg l : Expr} {tl : TE} (hl : PE X l tl) : PI X tg l (iDynL K tl) := e ▸ pi_dynL hl
theorem pe_fldK {a : Expr} {f : Str} {pos : Pos} {ta : TE} (ha : PE X a ta) (h : attributeBase a f X.env (eval a X.env) = eval a X.env) : PE X (.Attribute a f pos) (tFld K ta f) := e ▸ pe_fld ha h
theorem pe_revLK {a : Expr} {te : TE} {k : Nat} {p1 p2 p3 pos : Pos} (ha : PE X a te) : PE X (.Subscript a (.Slice none none (some (.UnaryOp .USub (.Constant (.int 1) k p1) p2)) p3) pos) (tRevL K te) := e ▸ pe_revL ha
end
end VL
set_option Elab.async false
set_option linter.all false
set_option maxRecDepth 100000
set_option maxHeartbeats 4000000
/-! comprehensions of two fors -/
namespace VL
open PySem PySem.Spec PyProof.Rows L2 XR
section
variable {K : PySem.W.Frag} {B : Bs} {E : L2.St → XK}
structure LcJ (src : Src) (n0 : Nat) (γ1 : Env) (vs : List Nat) (step : T → Env → (Env → Prop) → Prop) (done : Env → Prop) : Prop where
  ex : ∃ I : Nat → Env → Prop, (∃ γ2, Le n0 (γ1.wipe vs) γ2 ∧ I 0 γ2) ∧ (∀ i γ2, I i γ2 → src.on γ2) ∧
    (∀ i t γ2, src.ts[i]? = some t → I i γ2 → step t (γ2.wipe vs) fun γ4 => ∃ γ5, Le n0 (γ4.wipe vs) γ5 ∧ I (i + 1) γ5) ∧ ∀ γ2, I src.ts.length γ2 → done γ2
def vLc2 (wi : Env → (Src → Env → Prop) → XQ → Prop) (wg : Rf → Env → (Env → Prop) → XQ → Prop) (wt : Env → (Bool → Env → Prop) → XQ → Prop) (wi1 : Env → (Src → Env → Prop) → XQ → Prop) (wg1 : Rf → Env → (Env → Prop) → XQ → Prop) (wt1 : Env → (Bool → Env → Prop) → XQ → Prop) (we : VW) (vs vs1 : List Nat) : VW := fun γ Q X => wi γ (fun src γ1 =>
  LcI src γ1 vs (fun t γ2 N => wg (.val t) γ2 (fun γ3 => wt γ3 (fun c γ4 => br c (wi1 γ4 (fun src1 γ5 => LcJ src1 γ5.mem.length γ5 vs1 (fun t1 γ6 N1 => wg1 (.val t1) γ6 (fun γ7 => wt1 γ7 (fun c1 γ8 => br c1 (we γ8 (fun r γ9 => toT r γ9 fun t' γa => appQ γ1.mem.length t' γa N1) noX) (N1 γ8)) noX) noX) N) noX) (N γ4)) noX) noX) Q) X
instance {wi wi1 : TI} {g g1 : TG} {tt tt1 : TT} {te : TE} {vs vs1 is is1 : List Nat} {vi vi1 : Env → (Src → Env → Prop) → XQ → Prop} {vg vg1 : Rf → Env → (Env → Prop) → XQ → Prop} {vt vt1 : Env → (Bool → Env → Prop) → XQ → Prop} {ve : VW} [hi : VI K B E wi vi] [hg : VG K B E g vg is] [ht : VT K B E tt vt] [hi1 : VI K B E wi1 vi1] [hg1 : VG K B E g1 vg1 is1] [ht1 : VT K B E tt1 vt1] [he : VE K B E te ve] [hs : SubL is vs] [hs1 : SubL is1 vs1] :
    VE K B E (tLc2 wi g tt wi1 g1 tt1 te vs vs1) (vLc2 vi vg vt vi1 vg1 vt1 ve vs vs1) where
  run := fun {as γ σ G H Q Qv Xv} S h k kx => by
    refine hi.run S h (fun src γ1 as1 G1 H1 J p1 g1 S1 ok q1 => ?_) kx
    intro Da hD
    obtain ⟨⟨I, ⟨γ0, le0, i0⟩, on, step, done⟩⟩ := q1
    have SD := (S1.alloc (t := .lst []) (o := .lst []) hD ⟨[], upd_same, .nil⟩)
    have lD : (as1 ++ [Da]).length = γ1.mem.length + 1 := by rw [List.length_append, S1.mlen]; rfl
    have aD : (as1 ++ [Da])[γ1.mem.length]? = some Da := by rw [← S1.mlen, List.getElem?_append_right (Nat.le_refl _), Nat.sub_self]; rfl
    obtain ⟨as0, G0, pp0, gg0, SS0⟩ := StR.le le0 (SD.wipe vs) (List.prefix_refl _) lD
    refine ⟨fun i m H' => m = src.ts.length - i ∧ i ≤ src.ts.length ∧ ∃ as' γ' G', as1 ++ [Da] <+: as' ∧ Same G1 G' ∧ StR K B as' γ' σ G' H' ∧ I i γ', ⟨_, rfl, Nat.zero_le _, as0, γ0, G0, pp0, gg0, SS0, i0⟩, ?_⟩
    rintro i m H' ⟨rfl, hi', as', γ', G', p', g', S', inv⟩
    have pq : as1 <+: as' := (List.prefix_append _ _).trans p'
    obtain ⟨go, stop, yld⟩ := ok pq g' S' (on i γ' inv)
    by_cases hlt : i < src.ts.length
    · refine .inr ⟨go i hlt, fun H'' => i + 1 ≤ src.ts.length ∧ ∃ as'' γ'' G'', as1 ++ [Da] <+: as'' ∧ Same G1 G'' ∧ StR K B as'' γ'' σ G'' H'' ∧ I (i + 1) γ'', fun H'' q => ⟨_, by omega, rfl, q.1, q.2⟩, fun x H'' hy => ?_⟩
      obtain ⟨G2, t, et, g2, S2, rp⟩ := yld i x H'' hlt hy
      have S2' : StR K B as' (γ'.wipe vs) (L2.wipe σ vs) G2 H'' := (S2.wipe vs).rewipe (vs := vs) (wipe_wipe σ vs) fun i r e => Env.wipe_none γ' e
      refine hg.run S2' (r := .val t) rp (step i t γ' et inv) (fun γ3 as3 σ3 G3 H3 p3 g3 S3 w3 q3 => ?_) kxno
      have ws : L2.wipe σ3 vs = L2.wipe σ vs := (w3 vs hs.h).trans (wipe_wipe σ vs)
      refine ⟨ws, ht.run S3 q3 (fun b γ4 as4 b' G4 H4 p4 g4 S4 e q4 => ?_) kxno⟩
      cases e
      have gG : Same G1 G4 := (g'.trans g2).trans (g3.trans g4)
      have pP : as1 ++ [Da] <+: as4 := p'.trans (p3.trans p4)
      have fin : ∀ {γ5 : Env} {as5 : List Addr} {G5 H5 : Hp}, Same G1 G5 → as1 ++ [Da] <+: as5 → StR K B as5 γ5 σ3 G5 H5 → (∃ γ6, Le (γ1.mem.length + 1) (γ5.wipe vs) γ6 ∧ I (i + 1) γ6) → i + 1 ≤ src.ts.length ∧ ∃ as'' γ'' G'', as1 ++ [Da] <+: as'' ∧ Same G1 G'' ∧ StR K B as'' γ'' σ G'' H5 ∧ I (i + 1) γ'' := by
        rintro γ5 as5 G5 H5 gg pp S5 ⟨γ6, le6, i6⟩
        have S6 : StR K B as5 (γ5.wipe vs) σ G5 H5 := (S5.wipe vs).rewipe (vs := vs) ws.symm fun i r e => Env.wipe_none γ5 e
        obtain ⟨as7, G7, p7, g7, S7⟩ := StR.le le6 S6 pp lD
        exact ⟨hlt, as7, γ6, G7, p7, gg.trans g7, S7, i6⟩
      cases b with
      | false => exact fin gG pP S4 q4
      | true =>
        refine hi1.run S4 q4 (fun src1 γ5 as5 G5 H5 J1 p5 g5 S5 ok1 q5 => ?_) kxno
        obtain ⟨⟨I1, ⟨γ6, le6, i6⟩, on1, step1, done1⟩⟩ := q5
        have pP5 : as1 ++ [Da] <+: as5 := pP.trans p5
        obtain ⟨as6, G6, p6, g6, S6⟩ := StR.le le6 (S5.wipe vs1) (List.prefix_refl _) S5.mlen
        refine ⟨fun j m H' => m = src1.ts.length - j ∧ j ≤ src1.ts.length ∧ ∃ as' γ' G', as5 <+: as' ∧ Same G5 G' ∧ StR K B as' γ' σ3 G' H' ∧ I1 j γ', ⟨_, rfl, Nat.zero_le _, as6, γ6, G6, p6, g6, S6, i6⟩, ?_⟩
        rintro j m H7 ⟨rfl, hj', as7, γ7, G7, p7, g7, S7, inv1⟩
        obtain ⟨go1, stop1, yld1⟩ := ok1 p7 g7 S7 (on1 j γ7 inv1)
        by_cases hlt1 : j < src1.ts.length
        · refine .inr ⟨go1 j hlt1, fun H'' => j + 1 ≤ src1.ts.length ∧ ∃ as'' γ'' G'', as5 <+: as'' ∧ Same G5 G'' ∧ StR K B as'' γ'' σ3 G'' H'' ∧ I1 (j + 1) γ'', fun H'' q => ⟨_, by omega, rfl, q.1, q.2⟩, fun x H8 hy => ?_⟩
          obtain ⟨G8, t8, et8, g8, S8, rp8⟩ := yld1 j x H8 hlt1 hy
          have S8' : StR K B as7 (γ7.wipe vs1) (L2.wipe σ3 vs1) G8 H8 := (S8.wipe vs1).rewipe (vs := vs1) (wipe_wipe σ3 vs1) fun i r e => Env.wipe_none γ7 e
          refine hg1.run S8' (r := .val t8) rp8 (step1 j t8 γ7 et8 inv1) (fun γ9 as9 σ9 G9 H9 p9 g9 S9 w9 q9 => ?_) kxno
          have ws1 : L2.wipe σ9 vs1 = L2.wipe σ3 vs1 := (w9 vs1 hs1.h).trans (wipe_wipe σ3 vs1)
          refine ⟨ws1, ht1.run S9 q9 (fun b γa asa b' Ga Ha pa ga Sa e qa => ?_) kxno⟩
          cases e
          have gA : Same G5 Ga := (g7.trans g8).trans (g9.trans ga)
          have pA : as5 <+: asa := p7.trans (p9.trans pa)
          have fin1 : ∀ {γb : Env} {asb : List Addr} {Gb Hb : Hp}, Same G5 Gb → as5 <+: asb → StR K B asb γb σ9 Gb Hb → (∃ γc, Le γ5.mem.length (γb.wipe vs1) γc ∧ I1 (j + 1) γc) → j + 1 ≤ src1.ts.length ∧ ∃ as'' γ'' G'', as5 <+: as'' ∧ Same G5 G'' ∧ StR K B as'' γ'' σ3 G'' Hb ∧ I1 (j + 1) γ'' := by
            rintro γb asb Gb Hb gg pp Sb ⟨γc, lec, ic⟩
            have Sc : StR K B asb (γb.wipe vs1) σ3 Gb Hb := (Sb.wipe vs1).rewipe (vs := vs1) ws1.symm fun i r e => Env.wipe_none γb e
            obtain ⟨asd, Gd, pd, gd, Sd⟩ := StR.le lec Sc pp S5.mlen
            exact ⟨hlt1, asd, γc, Gd, pd, gg.trans gd, Sd, ic⟩
          cases b with
          | false => exact fin1 gA pA Sa qa
          | true =>
            refine he.run Sa qa (fun r γb asb v Gb Hb pb gb Sb rrb qb => ?_) kxno
            obtain ⟨t', γc, Gc, gc, Sc, rpc, qc⟩ := toT_ok Sb rrb qb
            have pp : as5 <+: asb := pA.trans pb
            obtain ⟨acc, e1, e2, γd, Sd, qd⟩ := app_ok Sc (pre_get (pP5.trans pp) aD) rpc qc
            exact ⟨acc, e1, e2, fin1 (gA.trans (gb.trans gc)) pp Sd qd⟩
        · have e : j = src1.ts.length := by omega
          subst e
          exact .inl ⟨stop1, fin ((gG.trans g5).trans g7) (pP5.trans p7) S7 (done1 γ7 inv1)⟩
    · have e : i = src.ts.length := by omega
      subst e
      refine .inl ⟨stop, k (.ref γ1.mem.length) _ _ _ _ _ (p1.trans pq) (g1.trans g') S' ⟨Da, pre_get p' aD, rfl⟩ (done γ' inv)⟩
end
section
variable {n0 : Nat} {γ1 : Env} {vs : List Nat} {step : T → Env → (Env → Prop) → Prop} {done : Env → Prop} {β : Type}
theorem lcj_ts {ts : List T} (E : β → Env) (P : Nat → β → Prop) (h0 : NLs n0 vs E (P 0) γ1) (hs : ∀ i t s, ts[i]? = some t → P i s → step t ((E s).wipe vs) (NLs n0 vs E (P (i + 1)))) (hd : ∀ s, P ts.length s → done (E s)) : LcJ (.fix ts) n0 γ1 vs step done := by
  unfold NLs at h0 hs
  refine ⟨fun i γ => ∃ s, γ = E s ∧ P i s, h0, fun _ _ _ => trivial, fun i t γ2 e h => ?_, fun γ2 h => ?_⟩
  · obtain ⟨s, rfl, p⟩ := h
    exact hs i t s e p
  · obtain ⟨s, rfl, p⟩ := h
    exact hd s p
theorem lcj_map {α : Type} {xs : List α} {f : α → T} (E : β → Env) (P : Nat → β → Prop) (h0 : NLs n0 vs E (P 0) γ1) (hs : ∀ (i : Nat) x s, xs[i]? = some x → P i s → step (f x) ((E s).wipe vs) (NLs n0 vs E (P (i + 1)))) (hd : ∀ s, P xs.length s → done (E s)) : LcJ (.fix (xs.map f)) n0 γ1 vs step done := by
  refine lcj_ts E P h0 (fun i t s e p => ?_) fun s p => hd s (by rw [List.length_map] at p; exact p)
  rw [List.getElem?_map] at e
  cases ex : xs[i]? with
  | none => rw [ex] at e; cases e
  | some x => rw [ex] at e; cases e; exact hs i x s ex p
theorem lcj_rng {lo : Int} {n : Nat} (E : β → Env) (P : Nat → β → Prop) (h0 : NLs n0 vs E (P 0) γ1) (hs : ∀ i s, i < n → P i s → step (.int (lo + (i : Nat))) ((E s).wipe vs) (NLs n0 vs E (P (i + 1)))) (hd : ∀ s, P n s → done (E s)) : LcJ (.fix (rngT lo n)) n0 γ1 vs step done := by
  refine lcj_ts E P h0 (fun i t s e p => ?_) fun s p => hd s (by rw [rngT_len] at p; exact p)
  obtain ⟨h, rfl⟩ := rngT_at e
  exact hs i s h p
end
section
variable {γ1 : Env} {vs : List Nat} {step : T → Env → (Env → Prop) → Prop} {Q : RQ}
theorem lc_rngI {lo : Int} {n : Nat} (I : Nat → List T → Prop) (i0 : I 0 []) (hs : ∀ i out, i < n → I i out → step (.int (lo + (i : Nat))) ((EL γ1 vs out).wipe vs) (NL γ1 vs (I (i + 1)))) (hd : ∀ out, I n out → Q (.ref γ1.mem.length) (EL γ1 vs out)) : LcI (.fix (rngT lo n)) γ1 vs step Q := by
  refine lc_ts I i0 (fun i t out e p => ?_) fun out p => hd out (by rw [rngT_len] at p; exact p)
  obtain ⟨h, rfl⟩ := rngT_at e
  exact hs i out h p
theorem lc_mapI {α : Type} {xs : List α} {f : α → T} (I : Nat → List T → Prop) (i0 : I 0 []) (hs : ∀ (i : Nat) x out, xs[i]? = some x → I i out → step (f x) ((EL γ1 vs out).wipe vs) (NL γ1 vs (I (i + 1)))) (hd : ∀ out, I xs.length out → Q (.ref γ1.mem.length) (EL γ1 vs out)) : LcI (.fix (xs.map f)) γ1 vs step Q := by
  refine lc_ts I i0 (fun i t out e p => ?_) fun out p => hd out (by rw [List.length_map] at p; exact p)
  rw [List.getElem?_map] at e
  cases ex : xs[i]? with
  | none => rw [ex] at e; cases e
  | some x => rw [ex] at e; cases e; exact hs i x out ex p
theorem fm_filter {α β : Type} (f : α → β) (q : α → Bool) : ∀ xs : List α, xs.filterMap (fun c => if q c then some (f c) else none) = (xs.filter q).map f
  | [] => rfl
  | x :: r => by
    rw [List.filterMap_cons, List.filter_cons, fm_filter f q r]
    cases q x <;> rfl
theorem lc_filter {α : Type} {xs : List α} {f : α → T} (q : α → Bool) (h : α → T) (hs : ∀ (i : Nat) x out, xs[i]? = some x → out.length < xs.length → step (f x) ((EL γ1 vs out).wipe vs) (NL γ1 vs (fun o => o = out ++ if q x then [h x] else []))) (hd : Q (.ref γ1.mem.length) (EL γ1 vs ((xs.filter q).map h))) : LcI (.fix (xs.map f)) γ1 vs step Q := by
  refine lc_fm (fun x => if q x then some (h x) else none) (fun i x out e l => ?_) (by rw [fm_filter]; exact hd)
  have e2 : (if q x then some (h x) else none).toList = if q x then [h x] else [] := by cases q x <;> rfl
  rw [e2]
  exact hs i x out e l
theorem lc_filterR {lo : Int} {n : Nat} (q : Nat → Bool) (h : Nat → T) (hs : ∀ i out, i < n → out.length < n → step (.int (lo + (i : Nat))) ((EL γ1 vs out).wipe vs) (NL γ1 vs (fun o => o = out ++ if q i then [h i] else []))) (hd : Q (.ref γ1.mem.length) (EL γ1 vs (((List.range n).filter q).map h))) : LcI (.fix (rngT lo n)) γ1 vs step Q := by
  refine lc_rng (fun x => if q x then some (h x) else none) (fun i out e l => ?_) (by rw [fm_filter]; exact hd)
  have e2 : (if q i then some (h i) else none).toList = if q i then [h i] else [] := by cases q i <;> rfl
  rw [e2]
  exact hs i out e l
theorem Enc.self {α : Type} [DecidableEq α] {f : α → T} {d : Nat} (h : Enc f d) (a : α) : eqT (f a) (f a) = true := by rw [h.eq]; exact decide_eq_true rfl
theorem Enc.selfL {α : Type} [DecidableEq α] {f : α → T} {d : Nat} (h : Enc f d) (xs : List α) : eqT (.lst (xs.map f)) (.lst (xs.map f)) = true := h.list.self xs
theorem nats_int (xs : List Nat) : xs.map (fun (i : Nat) => T.int (0 + (i : Int))) = (xs.map fun (a : Nat) => (a : Int)).map T.int := by
  rw [List.map_map]
  exact List.map_congr_left fun a _ => by simp
theorem bls_ok {α : Type} (p : α → Bool) {xs : List α} {R : List Bool → Prop} (h : R (xs.map p)) : ∃ bs : List Bool, xs.map (fun c => T.bl (p c)) = bs.map T.bl ∧ R bs := ⟨_, by rw [List.map_map]; rfl, h⟩
theorem all_id {α : Type} (p : α → Bool) (xs : List α) : (xs.map p).all id = xs.all p := by rw [List.all_map]; rfl
theorem any_id {α : Type} (p : α → Bool) (xs : List α) : (xs.map p).any id = xs.any p := by rw [List.any_map]; rfl
theorem ints_ok {α : Type} (p : α → Int) {xs : List α} {R : List Int → Prop} (h : R (xs.map p)) : ∃ ns : List Int, xs.map (fun c => T.int (p c)) = ns.map T.int ∧ R ns := ⟨_, by rw [List.map_map]; rfl, h⟩
/-- the loop from a weaker telling of the state -/
theorem lc_from {src : Src} (γ2 : Env) (hn : γ2.mem.length = γ1.mem.length) (h : Le (γ1.mem.length + 1) ((γ1.push (.mu (.lst []))).wipe vs) ((γ2.push (.mu (.lst []))).wipe vs)) (k : LcI src γ2 vs step Q) : LcI src γ1 vs step Q := by
  obtain ⟨⟨I, ⟨γ0, l0, i0⟩, on, st, dn⟩⟩ := k
  rw [hn] at l0 st dn
  exact ⟨I, ⟨γ0, h.trans l0, i0⟩, on, st, dn⟩
/-- what the test kept, what it left out -/
theorem NL.keep {γ4 : Env} {out : List T} {q : Bool} {t : T} (hq : q = true) (l : Le (γ1.mem.length + 1) (γ4.wipe vs) (EL γ1 vs (out ++ [t]))) : NL γ1 vs (fun o => o = out ++ if q then [t] else []) γ4 := .mk _ l (by rw [hq]; rfl)
theorem NL.skip {γ4 : Env} {out : List T} {q : Bool} {t : T} (hq : q = false) (l : Le (γ1.mem.length + 1) (γ4.wipe vs) (EL γ1 vs out)) : NL γ1 vs (fun o => o = out ++ if q then [t] else []) γ4 := .mk _ l (by rw [hq]; exact (List.append_nil _).symm)
end
theorem cutT_lo (xs : List T) {n : Int} (h : 0 ≤ n) : cutT xs none (some n) = xs.take n.toNat := by
  unfold cutT HT.sIx
  simp only [Nat.sub_zero, List.drop_zero]
  rw [if_neg (by omega)]
  rcases Nat.lt_or_ge xs.length n.toNat with z | z
  · rw [List.take_of_length_le (by omega), List.take_of_length_le (by omega)]
  · congr 1; omega
theorem cutT_hi (xs : List T) {n : Int} (h : 0 ≤ n) : cutT xs (some n) none = xs.drop n.toNat := by
  unfold cutT HT.sIx
  simp only
  rw [if_neg (by omega)]
  rcases Nat.lt_or_ge xs.length n.toNat with z | z
  · rw [show min n.toNat xs.length = xs.length by omega, Nat.sub_self, List.drop_of_length_le (l := xs) (i := n.toNat) (by omega)]; rfl
  · rw [show min n.toNat xs.length = n.toNat by omega, List.take_of_length_le (by rw [List.length_drop]; omega)]
theorem cutT_loM {α : Type} (f : α → T) (xs : List α) {n : Int} (h : 0 ≤ n) : cutT (xs.map f) none (some n) = (xs.take n.toNat).map f := by rw [cutT_lo _ h, List.map_take]
theorem cutT_hiM {α : Type} (f : α → T) (xs : List α) {n : Int} (h : 0 ≤ n) : cutT (xs.map f) (some n) none = (xs.drop n.toNat).map f := by rw [cutT_hi _ h, List.map_drop]
section
variable {P : Program} {w : World} {K : PySem.W.Frag} {mg : Str → Option Value} {base : Heap}
theorem FnQ.imp {k : Nat} {f : Addr} {fd : FuncData} {ps : List Str} {sp sp' : SpQ} (F : FnQ P w K mg base k f fd ps sp) (h : ∀ p vs H Q E, sp' p vs H Q E → sp p vs H Q E) : FnQ P w K mg base k f fd ps sp' :=
  ⟨fun p vs H Q E q => F.len p vs H Q E (h _ _ _ _ _ q), fun A outer s H args us vs Q p hr pin e0 hb r q => F.run A outer s H args us vs Q p hr pin e0 hb r (h _ _ _ _ _ q)⟩
theorem okFQ {k : Nat} {f : Addr} {fd : FuncData} {ps : List Str} {fv : VSpF} (F : FnQ P w K mg base k f fd ps (fun _ => vsp K (falses ps.length) (ofF fv))) (len : ∀ ts Q, fv ts Q → ts.length = ps.length) : FnQ P w K mg base k f fd ps (fun _ => vspF K fv) := by
  refine FnQ.imp F fun p vs H Q E h => ?_
  obtain ⟨G, ts, Qv, vw, rp, hf, kk⟩ := h
  have hl : ps.length = vs.length := (len ts Qv hf).symm.trans rp.length.symm
  show vsp K (falses ps.length) (ofF fv) vs H Q E
  rw [hl]
  refine ⟨G, ts, fun rt o => ∃ t, rt = .val t ∧ flatT t = true ∧ Qv t, fun _ _ => False, vw, argsF rp, by rw [ioF]; exact .nil, ⟨Qv, hf, fun t fl q => ⟨t, rfl, fl, q⟩⟩, fun rt o v G' H' F' r q => ?_, fun _ _ _ _ _ _ _ q => q.elim⟩
  obtain ⟨t, rfl, fl, q⟩ := q
  rw [ioF] at F'
  exact kk t v H' (fun a o e => F'.hh a o e (by simp)) (fun G'' => flat_any r fl) q
end
/-! ### the law itself -/
def spLaw (K : PySem.W.Frag) : Sp := fun vs H Q _ => ∃ (a : Addr) (ns : List Int), vs = [.ref a] ∧ SqL K H a (ns.map V.int) ∧ ns.length ≤ 63 ∧ ∀ H', Q (.bl true) H'
def spLawV : VSp := fun ts Q _ => ∃ ns : List Int, ts = [.scr (ns.map T.int)] ∧ ns.length ≤ 63 ∧ Q (.val (.bl true)) []
theorem rp_ints {K : PySem.W.Frag} {G : Hp} : ∀ ns : List Int, RpAll K G (ns.map V.int) (ns.map T.int)
  | [] => .nil
  | _ :: r => .cons (.int _) (rp_ints r)
theorem okLaw {P : Program} {w : World} {K : PySem.W.Frag} {mg : Str → Option Value} {base : Heap} {k : Nat} {f : Addr} {fd : FuncData} {ps : List Str} (F : FnOk P w K mg base CX0 k f fd ps (vsp K [false] spLawV)) : FnOk P w K mg base CX0 k f fd ps (spLaw K) := by
  refine F.imp fun vs H Q E h => ?_
  obtain ⟨a, ns, rfl, hS, hl, kq⟩ := h
  refine ⟨H, [.scr (ns.map T.int)], fun rt _ => rt = .val (.bl true), fun _ _ => False, Same.refl _, .val (.scr hS (rp_ints ns)) .nil, .nil, ⟨ns, rfl, hl, rfl⟩, fun rt o v G' H' _ r q => ?_, fun _ _ _ _ _ _ _ q => q.elim⟩
  subst q
  have r : Rp K G' v (.bl true) := r
  cases r
  exact kq _
end VL
set_option Elab.async false
set_option linter.all false
set_option maxRecDepth 100000
set_option maxHeartbeats 4000000
/-! loops whose state is told beside the state they begin at; what is settled ahead -/
namespace VL
open PySem PySem.Spec PyProof.Rows L2 XR
/-- the open object k, settled: in the slots too -/
def frSl (k : Nat) (t : T) : List (Option Rf) → List (Option Rf)
  | [] => []
  | some (.ref j) :: l => (match Nat.beq j k with
    | true => some (.val t)
    | false => some (.ref j)) :: frSl k t l
  | some (.val u) :: l => some (.val u) :: frSl k t l
  | some (.err D gs) :: l => some (.err D gs) :: frSl k t l
  | none :: l => none :: frSl k t l
def frX (n : Nat) (sl : List (Option Rf)) (m : List MO) (k : Nat) : Option MO → Env
  | some (.mu t) => ⟨n, frSl k t sl, m.set k (.fz t)⟩
  | some (.fz t) => ⟨n, frSl k t sl, m⟩
  | none => ⟨n, sl, m⟩
def Env.fr (γ : Env) (k : Nat) : Env := frX γ.nio γ.sl γ.mem k (nth γ.mem k)
def Env.frs (γ : Env) : List Nat → Env
  | [] => γ
  | k :: ks => (γ.fr k).frs ks
section
variable {n0 : Nat} {γ1 : Env} {step : T → Env → (Env → Prop) → Prop} {done : Env → Prop} {β : Type}
theorem for_fr {src : Src} (ks : List Nat) (h : Le n0 γ1 (γ1.frs ks)) (k : ForI src n0 (γ1.frs ks) step done) : ForI src n0 γ1 step done := by
  obtain ⟨I, ⟨γ0, l0, i0⟩, r⟩ := k
  exact ⟨I, ⟨γ0, h.trans l0, i0⟩, r⟩
theorem for_tsF {ts : List T} (F : Env → β → Env) (P : Nat → β → Prop) (h0 : Nx n0 (F γ1) (P 0) γ1)
    (hs : ∀ i t s, ts[i]? = some t → P i s → step t (F γ1 s) (Nx n0 (F γ1) (P (i + 1)))) (hd : ∀ s, P ts.length s → done (F γ1 s)) : ForI (.fix ts) n0 γ1 step done := for_ts (F γ1) P h0 hs hd
theorem for_mapF {α : Type} {xs : List α} {f : α → T} (F : Env → β → Env) (P : Nat → β → Prop) (h0 : Nx n0 (F γ1) (P 0) γ1)
    (hs : ∀ i x s, xs[i]? = some x → P i s → step (f x) (F γ1 s) (Nx n0 (F γ1) (P (i + 1)))) (hd : ∀ s, P xs.length s → done (F γ1 s)) : ForI (.fix (xs.map f)) n0 γ1 step done := for_map (F γ1) P h0 hs hd
theorem for_rngF {lo : Int} {n : Nat} (F : Env → β → Env) (P : Nat → β → Prop) (h0 : Nx n0 (F γ1) (P 0) γ1)
    (hs : ∀ i s, i < n → P i s → step (.int (lo + (i : Nat))) (F γ1 s) (Nx n0 (F γ1) (P (i + 1)))) (hd : ∀ s, P n s → done (F γ1 s)) : ForI (.fix (rngT lo n)) n0 γ1 step done := for_rng (F γ1) P h0 hs hd
theorem for_enumF {α : Type} {xs : List α} {f : α → T} {n : Int} (F : Env → β → Env) (P : Nat → β → Prop) (h0 : Nx n0 (F γ1) (P 0) γ1)
    (hs : ∀ i x s, xs[i]? = some x → P i s → step (.tup [.int (n + (i : Nat)), f x]) (F γ1 s) (Nx n0 (F γ1) (P (i + 1)))) (hd : ∀ s, P xs.length s → done (F γ1 s)) : ForI (.fix (enumT n (xs.map f))) n0 γ1 step done := for_enum (F γ1) P h0 hs hd
theorem for_zipF {α α' : Type} {xs : List α} {ys : List α'} {f : α → T} {g : α' → T} (F : Env → β → Env) (P : Nat → β → Prop) (h0 : Nx n0 (F γ1) (P 0) γ1)
    (hs : ∀ i x y s, xs[i]? = some x → ys[i]? = some y → P i s → step (.tup [f x, g y]) (F γ1 s) (Nx n0 (F γ1) (P (i + 1)))) (hd : ∀ s, P (min xs.length ys.length) s → done (F γ1 s)) : ForI (.fix (zipT (xs.map f) (ys.map g))) n0 γ1 step done := for_zip (F γ1) P h0 hs hd
theorem for_liveF {α : Type} {xs : List α} {f : α → T} {k : Nat} (F : Env → β → Env) (P : Nat → β → Prop) (hon : ∀ s, nth (F γ1 s).mem k = some (.mu (.lst (xs.map f)))) (h0 : Nx n0 (F γ1) (P 0) γ1)
    (hs : ∀ i x s, xs[i]? = some x → P i s → step (f x) (F γ1 s) (Nx n0 (F γ1) (P (i + 1)))) (hd : ∀ s, P xs.length s → done (F γ1 s)) : ForI (.live k (xs.map f)) n0 γ1 step done := for_live (F γ1) P hon h0 hs hd
theorem while_tsF {step : Env → (Env → Prop) → Prop} (F : Env → β → Env) (P : Nat → β → Prop) (m : Nat) (h0 : Nx n0 (F γ1) (P m) γ1) (hs : ∀ m s, P m s → step (F γ1 s) (Nw n0 (F γ1) P m)) : WhileI n0 γ1 step := while_ts (F γ1) P m h0 hs
end
section
variable {γ1 : Env} {vs : List Nat} {step : T → Env → (Env → Prop) → Prop} {Q : RQ} {β : Type}
theorem frs_len : ∀ (ks : List Nat) (γ : Env), (γ.frs ks).mem.length = γ.mem.length
  | [], γ => rfl
  | k :: ks, γ => by
    show ((γ.fr k).frs ks).mem.length = _
    rw [frs_len ks]
    unfold Env.fr frX
    split
    · simp
    · rfl
    · rfl
theorem lc_fr {src : Src} (ks : List Nat) (h : Le (γ1.mem.length + 1) ((γ1.push (.mu (.lst []))).wipe vs) (((γ1.frs ks).push (.mu (.lst []))).wipe vs)) (k : LcI src (γ1.frs ks) vs step Q) : LcI src γ1 vs step Q := lc_from _ (frs_len ks γ1) h k
theorem lc_tsF {ts : List T} (F : Env → β → Env) (P : Nat → β → Prop) (h0 : NLs (γ1.mem.length + 1) vs (F γ1) (P 0) (γ1.push (.mu (.lst []))))
    (hs : ∀ i t s, ts[i]? = some t → P i s → step t ((F γ1 s).wipe vs) (NLs (γ1.mem.length + 1) vs (F γ1) (P (i + 1)))) (hd : ∀ s, P ts.length s → Q (.ref γ1.mem.length) (F γ1 s)) : LcI (.fix ts) γ1 vs step Q := lc_st (F γ1) P h0 hs hd
theorem lc_mapF {α : Type} {xs : List α} {f : α → T} (F : Env → β → Env) (P : Nat → β → Prop) (h0 : NLs (γ1.mem.length + 1) vs (F γ1) (P 0) (γ1.push (.mu (.lst []))))
    (hs : ∀ i x s, xs[i]? = some x → P i s → step (f x) ((F γ1 s).wipe vs) (NLs (γ1.mem.length + 1) vs (F γ1) (P (i + 1)))) (hd : ∀ s, P xs.length s → Q (.ref γ1.mem.length) (F γ1 s)) : LcI (.fix (xs.map f)) γ1 vs step Q := by
  refine lc_tsF F P h0 (fun i t s e p => ?_) fun s p => hd s (by rw [List.length_map] at p; exact p)
  rw [List.getElem?_map] at e
  cases ex : xs[i]? with
  | none => rw [ex] at e; cases e
  | some x => rw [ex] at e; cases e; exact hs i x s ex p
theorem lc_rngF {lo : Int} {n : Nat} (F : Env → β → Env) (P : Nat → β → Prop) (h0 : NLs (γ1.mem.length + 1) vs (F γ1) (P 0) (γ1.push (.mu (.lst []))))
    (hs : ∀ i s, i < n → P i s → step (.int (lo + (i : Nat))) ((F γ1 s).wipe vs) (NLs (γ1.mem.length + 1) vs (F γ1) (P (i + 1)))) (hd : ∀ s, P n s → Q (.ref γ1.mem.length) (F γ1 s)) : LcI (.fix (rngT lo n)) γ1 vs step Q := by
  refine lc_tsF F P h0 (fun i t s e p => ?_) fun s p => hd s (by rw [rngT_len] at p; exact p)
  obtain ⟨h, rfl⟩ := rngT_at e
  exact hs i s h p
end
/-- an item of a display of ints -/
theorem lits (P : Int → Prop) (l : List Int) {i : Int} (h0 : 0 ≤ i) (h1 : i < (l.length : Int)) (hp : ∀ z ∈ l, P z) : ∃ z, P z ∧ atL (l.map T.int) i = some (.int z) := by
  obtain ⟨z, hz, e⟩ := at_map (f := T.int) (xs := l) h0 h1
  exact ⟨z, hp z (List.mem_of_getElem? hz), e⟩
/-! ### the state, reckoned -/
section
variable {n k i : Nat} {sl : List (Option Rf)} {m : List MO} {x : MO} {r : Rf}
theorem put_mk : Env.put ⟨n, sl, m⟩ k x = ⟨n, sl, m.set k x⟩ := rfl
theorem push_mk : Env.push ⟨n, sl, m⟩ x = ⟨n, sl, m ++ [x]⟩ := rfl
theorem set_mk : Env.set ⟨n, sl, m⟩ i r = ⟨n, sl.set i (some r), m⟩ := rfl
theorem unset_mk : Env.unset ⟨n, sl, m⟩ i = ⟨n, sl.set i none, m⟩ := rfl
theorem wipe_nl {γ : Env} : γ.wipe [] = γ := rfl
theorem wipe_cs {γ : Env} {v : Nat} {vs : List Nat} : γ.wipe (v :: vs) = (γ.wipe vs).unset v := rfl
theorem el_mk {γ : Env} {vs : List Nat} {out : List T} : EL γ vs out = (γ.push (.mu (.lst out))).wipe vs := rfl
theorem frs_nl {γ : Env} : γ.frs [] = γ := rfl
theorem frs_cs {γ : Env} {k : Nat} {ks : List Nat} : γ.frs (k :: ks) = (γ.fr k).frs ks := rfl
theorem fr_mk : Env.fr ⟨n, sl, m⟩ k = frX n sl m k (nth m k) := rfl
end
end VL
set_option Elab.async false
set_option linter.all false
set_option maxRecDepth 100000
set_option maxHeartbeats 4000000
/-! starred items, constants of the module that are tuples, items at a drawn index -/
namespace VL
open PySem PySem.Spec PyProof.Rows L2 XR
section
variable {K : PySem.W.Frag} {B : Bs} {E : L2.St → XK}
theorem RRs.app {ex : Addr × Value × Option Addr} {as : List Addr} {G : Hp} {rs rs' : List Rf} {vs vs' : List V} (q : RRs K ex as G rs' vs') : ∀ {rs : List Rf} {vs : List V}, RRs K ex as G rs vs → RRs K ex as G (rs ++ rs') (vs ++ vs')
  | _, _, .nil => q
  | _, _, .cons a b => .cons a (RRs.app (rs := []) (vs := []) q b)
/-- *s, .. -/
def vStar (wa : VW) (wr : Env → (List Rf → Env → Prop) → XQ → Prop) : Env → (List Rf → Env → Prop) → XQ → Prop := fun γ Q X => wa γ (fun r γ1 => peek r γ1 fun t => seqT t fun _ ts => wr γ1 (fun rs γ2 => Q (ts.map Rf.val ++ rs) γ2) X) X
instance {te : TE} {tr : TA} {wa : VW} {wr : Env → (List Rf → Env → Prop) → XQ → Prop} [ha : VE K B E te wa] [hr : VA K B E tr wr] : VA K B E (StX.tStar K te tr) (vStar wa wr) where
  run := fun {as γ σ G H Q Qv Xv} S h k kx => by
    refine ha.run S h (fun r1 γ1 as1 v1 G1 H1 p1 g1 S1 rr1 q1 => ?_) kx
    obtain ⟨b, ts, a, acc, rfl, sq, rp, q⟩ := peek_seq S1 rr1 q1
    refine ⟨a, acc, rfl, sq.or.symm, ?_⟩
    refine hr.run S1 q (fun rs γ2 as2 vs G2 H2 p2 g2 S2 rr2 q2 => ?_) (kx.mono p1 g1)
    exact k _ _ _ _ _ _ (p1.trans p2) (g1.trans g2) S2 (RRs.app (rs := []) (vs := []) rr2 (RRs.mono p2 g2 rp.rrs)) q2
theorem pa_starU {X : Cx} {e : Expr} {es : List Expr} {te : TE} {t : TA} {p : Pos} (he : PE X e te) (hr : PA X es t) (hs : starEach (.Starred e p :: es) X.env = (true, eval e X.env) :: starEach es X.env) : PA X (.Starred e p :: es) (StX.tStar X.K te t) := StX.pa_star he hr hs
theorem pa_starK {X : Cx} {K : PySem.W.Frag} (ek : X.K = K) {e : Expr} {es : List Expr} {te : TE} {t : TA} {p : Pos} (he : PE X e te) (hr : PA X es t) (hs : starEach (.Starred e p :: es) X.env = (true, eval e X.env) :: starEach es X.env) : PA X (.Starred e p :: es) (StX.tStar K te t) := ek ▸ StX.pa_star he hr hs
theorem toTs_vals {ts : List T} {rs : List Rf} {γ : Env} {Q : List T → Env → Prop} (h : toTs rs γ fun us γ' => Q (ts ++ us) γ') : toTs (ts.map Rf.val ++ rs) γ Q := by
  induction ts generalizing Q with
  | nil => exact h
  | cons t r ih => exact ih (Q := fun us γ' => Q (t :: us) γ') h
theorem toTs_vals0 {ts : List T} {γ : Env} {Q : List T → Env → Prop} (h : Q ts γ) : toTs (ts.map Rf.val) γ Q := by
  have := toTs_vals (rs := []) (ts := ts) (γ := γ) (Q := Q) (by show Q (ts ++ []) γ; rw [List.append_nil]; exact h)
  rw [List.append_nil] at this
  exact this
/-- a constant of the module: a tuple that stands from the start -/
def tGt (K : PySem.W.Frag) (a : Addr) (t : T) : TE := fun _ H Q => (∀ G : Hp, Rp K G (.ref a) t) → Q (.ref a) H
theorem pe_gt {X : Cx} {x : Str} {a : Addr} {t : T} {pos : Pos} (hg : Gl X x) (h : X.mg x = some (.ref a) ∧ ∀ G : Hp, Rp K G (.ref a) t) (hd : (x == ("__debug__" : Str)) = false := by decide) : PE X (.Name x pos) (tGt K a t) :=
  ⟨fun pins s σ H Q I q => (pe_glob (v := .ref a) hg h.1 rfl hd).run pins s σ H Q I (q h.2)⟩
instance {a : Addr} {t : T} : VE K B E (tGt K a t) (vVal t) := ⟨fun {as γ σ G H Q Qv Xv} S h k _ => fun rp => kval k S (rp G) h⟩
theorem rp_ctup {a : Addr} {od : Option Addr} {its : Array Value} {n : Nat} {sl : Array (Option Value)} {xs : List V} {ts : List T} (e : K.lookup a = some ⟨.type "tuple", od, .seq its n, sl⟩) (hz : its.size ≤ 1000) (hv : Vals xs its.toList) (h : ∀ G : Hp, RpAll K G xs ts) : ∀ G : Hp, Rp K G (.ref a) (.tup ts) :=
  fun G => .tup (.inr ⟨_, its, n, e, rfl, rfl, by rw [sizeLine_eq]; omega, hv⟩) (h G)
end
section
variable {α β γ : Type} [DecidableEq α] [DecidableEq β] [DecidableEq γ] {f : α → T} {g : β → T} {h : γ → T} {d e k : Nat}
theorem Enc.trip (hf : Enc f d) (hg : Enc g e) (hh : Enc h k) : Enc (fun p : α × β × γ => T.tup [f p.1, g p.2.1, h p.2.2]) (max d (max e k) + 1) := by
  refine ⟨fun a b => ?_, fun a => ?_, fun a => ?_⟩
  · show (eqT (f a.1) (f b.1) && (eqT (g a.2.1) (g b.2.1) && (eqT (h a.2.2) (h b.2.2) && true))) = _
    rw [hf.eq, hg.eq, hh.eq, Bool.and_true, Bool.eq_iff_iff]
    obtain ⟨a1, a2, a3⟩ := a
    obtain ⟨b1, b2, b3⟩ := b
    simp
  · show (dataT (f a.1) && (dataT (g a.2.1) && (dataT (h a.2.2) && true))) = true
    rw [hf.data, hg.data, hh.data]; rfl
  · show max (depT (f a.1)) (max (depT (g a.2.1)) (max (depT (h a.2.2)) 0)) + 1 ≤ _
    have := hf.dep a.1
    have := hg.dep a.2.1
    have := hh.dep a.2.2
    omega
end
theorem Enc.memI {α : Type} [DecidableEq α] {f : α → T} {d : Nat} (h : Enc f d) (x : α) (xs : List α) : anyT (f x) (xs.map f) = true ↔ x ∈ xs := by rw [h.mem]; exact decide_eq_true_iff
theorem Enc.eqI {α : Type} [DecidableEq α] {f : α → T} {d : Nat} (h : Enc f d) (x y : α) : eqT (f x) (f y) = true ↔ x = y := by rw [h.eq]; exact decide_eq_true_iff
theorem setN_map {α : Type} (f : α → T) : ∀ (xs : List α) (n : Nat) (x : α), n < xs.length → setN (xs.map f) n (f x) = some ((xs.set n x).map f)
  | [], _, _, h => by cases h
  | a :: l, 0, x, _ => rfl
  | a :: l, n + 1, x, h => by
    show (setN (l.map f) n (f x)).map _ = _
    rw [setN_map f l n x (Nat.lt_of_succ_lt_succ h)]; rfl
theorem set_map {α : Type} {f : α → T} {xs : List α} {i : Int} {x : α} (h0 : 0 ≤ i) (h1 : i < (xs.length : Int)) : setL (xs.map f) i (f x) = some ((xs.set i.toNat x).map f) := by
  obtain ⟨n, rfl⟩ := Int.eq_ofNat_of_zero_le h0
  exact setN_map f xs n x (by omega)
theorem isS_set {α : Type} {f : α → T} {xs : List α} {i : Int} {x : α} {Q : List T → Prop} (h0 : 0 ≤ i) (h1 : i < (xs.length : Int)) (h : Q ((xs.set i.toNat x).map f)) : isS (setL (xs.map f) i (f x)) Q := isS_i (set_map h0 h1) h
theorem rep_map {α : Type} (f : α → T) (x : α) : ∀ n : Nat, (List.replicate n [f x]).flatten = (List.replicate n x).map f
  | 0 => rfl
  | n + 1 => by rw [List.replicate_succ, List.flatten_cons, rep_map f x n]; rfl
theorem rng_map (lo : Int) (n : Nat) : rngT lo n = ((List.range n).map fun (i : Nat) => lo + (i : Int)).map T.int := by
  unfold rngT
  rw [List.map_map]; rfl
/-! ### an item at an index -/
theorem isS_in {α : Type} {f : α → T} {xs : List α} {i : Int} {Q : T → Prop} (h0 : 0 ≤ i) (h1 : i < (xs.length : Int)) (h : ∀ x, xs[i.toNat]? = some x → Q (f x)) : isS (atL (xs.map f) i) Q := by
  obtain ⟨x, hx, e⟩ := at_map (f := f) (xs := xs) h0 h1
  exact isS_i e (h x hx)
theorem isS_mod {α : Type} {f : α → T} {xs : List α} {x n : Int} {Q : T → Prop} (hn : (xs.length : Int) = n) (h0 : 0 < n) (h : ∀ z, z ∈ xs → Q (f z)) : isS (atL (xs.map f) (x % n)) Q :=
  isS_in (Int.emod_nonneg _ (by omega)) (by rw [hn]; exact Int.emod_lt_of_pos _ h0) fun z hz => h z (List.mem_of_getElem? hz)
theorem getD_z {α : Type} {l : List α} {z : Int} {i : Nat} {d x : α} (h : l[z.toNat]? = some x) (e : z.toNat = i) : l.getD i d = x := by subst e; simp [List.getD, h]
/-- of a display of ints -/
theorem isS_lit {l : List Int} {i : Int} {Q : T → Prop} (h0 : 0 ≤ i) (h1 : i < (l.length : Int)) (h : ∀ z, z ∈ l → Q (.int z)) : isS (atL (l.map T.int) i) Q := isS_in h0 h1 fun z hz => h z (List.mem_of_getElem? hz)
end VL
set_option Elab.async false
set_option linter.all false
set_option maxRecDepth 100000
set_option maxHeartbeats 4000000
/-! s == [], whatever stands in s -/
namespace VL
open PySem PySem.Spec PyProof.Rows L2 XR
def rEmp (K : PySem.W.Frag) (neg : Bool) : R2 := fun x y H Q => ∃ a b xs, x = .ref a ∧ y = .ref b ∧ SqL K H a xs ∧ SqL K H b [] ∧ Q (.bl (nb neg xs.isEmpty)) H
section
variable {X : Cx} {K : PySem.W.Frag} (e : X.K = K)
include e
theorem op_eqE (hu : X.A.units + 65 < cLine) : OpR X (compareOp .Eq) (rEmp K false) := by
  subst e
  intro pins s σ H x y v u Q I rx ry h
  obtain ⟨a, b, xs, rfl, rfl, ha, hb, q⟩ := h
  cases (show v = Value.ref a from rx)
  cases (show u = Value.ref b from ry)
  obtain ⟨us, r1, p1, _⟩ := I.list ha
  obtain ⟨ws, r2, p2, _⟩ := I.list hb
  cases r2
  cases xs with
  | nil =>
    cases r1
    exact (SeqAt.RcAt.lists (e := fun _ => true) p1.isList p2.isList rfl (by omega) (fun j h1 h2 => absurd h1 (by simp))) X.prog X.w _ _ ⟨.bl true, H, I, rfl, q⟩
  | cons x xs =>
    cases r1
    exact (SeqAt.RcAt.lists_lengths p1.isList p2.isList (by simp) (by omega)) X.prog X.w _ _ ⟨.bl false, H, I, rfl, q⟩
theorem op_neE (hu : X.A.units + 65 < cLine) : OpR X (compareOp .NotEq) (rEmp K true) := by
  subst e
  intro pins s σ H x y v u Q I rx ry h
  obtain ⟨a, b, xs, rfl, rfl, ha, hb, q⟩ := h
  cases (show v = Value.ref a from rx)
  cases (show u = Value.ref b from ry)
  obtain ⟨us, r1, p1, _⟩ := I.list ha
  obtain ⟨ws, r2, p2, _⟩ := I.list hb
  cases r2
  cases xs with
  | nil =>
    cases r1
    exact (SeqAt.RcNeAt.lists (e := fun _ => true) p1.isList p2.isList rfl (by omega) (fun j h1 h2 => absurd h1 (by simp))) X.prog X.w _ _ ⟨.bl false, H, I, rfl, q⟩
  | cons x xs =>
    cases r1
    exact (SeqAt.RcNeAt.lists_lengths p1.isList p2.isList (by simp) (by omega)) X.prog X.w _ _ ⟨.bl true, H, I, rfl, q⟩
end
def vEmp (neg : Bool) : Rf → Rf → VW := peek2 fun x y Q γ => match y with
  | .lst [] => match x with
    | .lst ts => Q (.val (.bl (nb neg ts.isEmpty))) γ
    | .scr ts => Q (.val (.bl (nb neg ts.isEmpty))) γ
    | _ => False
  | _ => False
section
variable {K : PySem.W.Frag} {B : Bs} {E : L2.St → XK}
theorem v2_emp {neg : Bool} : V2 K B E (rEmp K neg) (vEmp neg) where
  run := fun {as γ σ G H x y rx ry Q Qv Xv} S r1 r2 h k _ => by
    obtain ⟨t, u, e1, e2, h⟩ := peek2_rp S r1 r2 h
    split at h
    · cases e2 with | lst b1 b2 =>
      cases b2
      split at h
      · cases e1 with | lst z1 z2 => exact ⟨_, _, _, rfl, rfl, SqL.of z1, SqL.of b1, by rw [z2.emp]; exact kval k S (.bl _) h⟩
      · cases e1 with | scr z1 z2 => exact ⟨_, _, _, rfl, rfl, z1, SqL.of b1, by rw [z2.emp]; exact kval k S (.bl _) h⟩
      · exact h.elim
    · exact h.elim
instance : V2 K B E (rEmp K false) (vEmp false) := v2_emp
instance : V2 K B E (rEmp K true) (vEmp true) := v2_emp
end
end VL
set_option Elab.async false
set_option linter.all false
set_option maxRecDepth 100000
set_option maxHeartbeats 4000000
/-! methods of texts -/
namespace VL
open PySem PySem.Spec PyProof.Rows L2 XR
def isStr (t : T) : Prop := match t with
  | .str _ => True
  | _ => False
theorem isStr_ok {K : PySem.W.Frag} {B : Bs} {as : List Addr} {γ : Env} {σ : L2.St} {G H : Hp} {r : Rf} {v : V} (S : StR K B as γ σ G H) (rr : RR K B.ex as G r v) (h : peek r γ isStr) : ∃ a, v = .str a := by
  obtain ⟨t, q, z⟩ := peek_rp S rr h
  unfold isStr at q
  split at q
  · cases z; exact ⟨_, rfl⟩
  · exact q.elim
section
variable {K : PySem.W.Frag} {B : Bs} {E : L2.St → XK}
def vM1 (wr : Rf → List Rf → VW) (wo we : VW) : VW := fun γ Q X => wo γ (fun r γ1 => peek r γ1 isStr ∧ we γ1 (fun r2 γ2 => wr r [r2] γ2 Q X) X) X
def vM0 (wr : Rf → List Rf → VW) (wo : VW) : VW := fun γ Q X => wo γ (fun r γ1 => peek r γ1 isStr ∧ wr r [] γ1 Q X) X
instance {r : V → List V → Hp → VK → Prop} {wr : Rf → List Rf → VW} {to te : TE} {wo we : VW} [ho : VE K B E to wo] [he : VE K B E te we] [hr : VM K B E r wr] : VE K B E (tM1 r to te) (vM1 wr wo we) where
  run := fun {as γ σ G H Q Qv Xv} S h k kx => by
    refine ho.run S h (fun r1 γ1 as1 v1 G1 H1 p1 g1 S1 rr1 q1 => ?_) kx
    refine ⟨isStr_ok S1 rr1 q1.1, ?_⟩
    refine he.run S1 q1.2 (fun r2 γ2 as2 v2 G2 H2 p2 g2 S2 rr2 q2 => ?_) (kx.mono p1 g1)
    exact hr.run S2 (RR.mono rr1 p2 g2) (.cons rr2 .nil) q2 ((k.mono p1 g1).mono p2 g2) ((kx.mono p1 g1).mono p2 g2)
instance {r : V → List V → Hp → VK → Prop} {wr : Rf → List Rf → VW} {to : TE} {wo : VW} [ho : VE K B E to wo] [hr : VM K B E r wr] : VE K B E (tM0 r to) (vM0 wr wo) where
  run := fun {as γ σ G H Q Qv Xv} S h k kx => by
    refine ho.run S h (fun r1 γ1 as1 v1 G1 H1 p1 g1 S1 rr1 q1 => ?_) kx
    exact ⟨isStr_ok S1 rr1 q1.1, hr.run S1 rr1 .nil q1.2 (k.mono p1 g1) (kx.mono p1 g1)⟩
/-! ### join -/
theorem strs_inv {G : Hp} : ∀ {vs : List V} {ys : List Str}, RpAll K G vs (ys.map T.str) → vs = ys.map V.str ∧ ∀ y ∈ ys, PyData.strOk y = true
  | _, [], .nil => ⟨rfl, by simp⟩
  | _, y :: ys, .cons (.str _ h) b => by
    obtain ⟨e, o⟩ := strs_inv b
    refine ⟨by rw [e]; rfl, fun z hz => ?_⟩
    rcases List.mem_cons.mp hz with rfl | hz
    · exact h
    · exact o z hz
theorem strOk_join {a : Str} (ha : PyData.strOk a = true) : ∀ ys : List Str, (∀ y ∈ ys, PyData.strOk y = true) → PyData.strOk (Str.join a ys) = true
  | [], _ => strOk_empty
  | [x], h => h x List.mem_cons_self
  | x :: z :: r, h => by
    show PyData.strOk (x ++ a ++ Str.join a (z :: r)) = true
    exact strOk_app (strOk_app (h x List.mem_cons_self) ha) (strOk_join ha (z :: r) fun y hy => h y (List.mem_cons_of_mem _ hy))
def rJoin (K : PySem.W.Frag) : V → List V → Hp → VK → Prop := fun x xs H Q => ∃ a p, ∃ ys : List Str, x = .str a ∧ xs = [.ref p] ∧ (SqL K H p (ys.map V.str) ∨ SqT K H p (ys.map V.str)) ∧
      (ys.map (·.length)).sum + ys.length * a.length ≤ 16777216 ∧ Q (.str (Txt.join a ys)) H
theorem pe_joinK {X : Cx} {o e : Expr} {to te : TE} {apos pos : Pos} (ek : X.K = K) (ho : PE X o to) (he : PE X e te) (hs : starEach [e] X.env = [(false, eval e X.env)]) (hbase : attributeBase o "join" X.env (eval o X.env) = eval o X.env) (hline : (apos.endLine == pos.line) = true) :
    PE X (.Call (.Attribute o "join" apos) [e] [] pos) (tM1 (rJoin K) to te) := ek ▸ pe_join ho he hs hbase hline
def vJoinM : Rf → List Rf → VW := fun r rs γ Q _ => arg1 rs fun y => peek r γ fun t => match t with
  | .str a => peek y γ fun u => seqT u fun _ ts => ∃ ys : List Str, ts = ys.map T.str ∧ (ys.map (·.length)).sum + ys.length * a.length ≤ 16777216 ∧ Q (.val (.str (Str.join a ys))) γ
  | _ => False
instance : VM K B E (rJoin K) vJoinM where
  run := fun {as γ σ G H x rx vs rs Q Qv Xv} S rr rrs h kk _ => by
    unfold vJoinM arg1 at h
    split at h
    · cases rrs with | cons a0 b =>
      cases b
      obtain ⟨t, h, z⟩ := peek_rp S rr h
      split at h
      · cases z with | str _ ok =>
        obtain ⟨bb, ts, p, acc, rfl, sq, rp, ys, rfl, hz, q⟩ := peek_seq S a0 h
        obtain ⟨rfl, oy⟩ := strs_inv rp
        refine ⟨_, p, ys, rfl, rfl, sq.or, hz, ?_⟩
        rw [TL.join_eq]
        exact kval kk S (.str _ (strOk_join ok ys oy)) q
      · exact h.elim
    · exact h.elim
end
theorem len_app (a b : Str) : (a ++ b).length = a.length + b.length := by
  show (a.cps ++ b.cps).size = _
  rw [Array.size_append]; rfl
theorem join_len (a : Str) : ∀ ys : List Str, (Str.join a ys).length ≤ (ys.map (·.length)).sum + ys.length * a.length
  | [] => Nat.zero_le _
  | [x] => by show x.length ≤ x.length + 0 + 1 * a.length; omega
  | x :: z :: r => by
    show (x ++ a ++ Str.join a (z :: r)).length ≤ _
    have := join_len a (z :: r)
    rw [len_app, len_app, List.map_cons, List.sum_cons, List.length_cons, Nat.succ_mul]
    omega
/-- a sign of a text -/
theorem isS_chr {z : Str} {i : Int} {Q : T → Prop} (h0 : 0 ≤ i) (h1 : i < (z.length : Int)) (h : ∀ c : Nat, Q (.str ⟨#[c]⟩)) : isS (atL z.cps.toList i) fun c => Q (.str ⟨#[c]⟩) := by
  obtain ⟨c, e, _⟩ := atL_at z.cps.toList h0 (by rw [Array.length_toList]; exact h1)
  exact isS_i e (h c)
/-- where a text stands first -/
def fx (pts : List Str) (x : Str) : Nat := pts.findIdx (· == x)
theorem fx_lt {pts : List Str} {x : Str} (h : x ∈ pts) : fx pts x < pts.length := List.findIdx_lt_length_of_exists ⟨x, h, by simp⟩
theorem index_ok {pts : List Str} {x : Str} (h : x ∈ pts) {Q : Nat → Prop} (k : Q (fx pts x)) : (okD (.str x) = true ∧ okD (.lst (pts.map T.str)) = true) ∧ ∃ (j : Nat) (z : T), (pts.map T.str)[j]? = some z ∧ eqT z (.str x) = true ∧ (∀ (m : Nat) (z' : T), m < j → (pts.map T.str)[m]? = some z' → eqT z' (.str x) = false) ∧ Q j := by
  refine ⟨⟨rfl, encStr.list.ok (by decide) pts⟩, fx pts x, .str x, ?_, ?_, ?_, k⟩
  · have hl := fx_lt h
    rw [List.getElem?_map, List.getElem?_eq_getElem hl]
    have := List.findIdx_getElem (w := hl)
    rw [show pts[fx pts x] = x by unfold fx; simpa using this]
    rfl
  · exact encStr.self x
  · intro m z' hm e
    rw [List.getElem?_map] at e
    cases em : pts[m]? with
    | none => rw [em] at e; cases e
    | some y =>
      rw [em] at e
      cases e
      obtain ⟨hl, rfl⟩ := List.getElem?_eq_some_iff.mp em
      have := List.not_of_lt_findIdx hm
      rw [encStr.eq]
      simpa using this
end VL
set_option Elab.async false
set_option linter.all false
set_option maxRecDepth 100000
set_option maxHeartbeats 4000000
/-! methods of lists in comprehensions: K told, nothing left to be found -/
namespace VL
open PySem PySem.Spec PyProof.Rows L2 XR
section
variable {X : Cx} {K : PySem.W.Frag} (ek : X.K = K)
include ek
theorem mt_indexK (hu : X.A.units + 65 < cLine) : MtR X "list.index" (rIndexD K) := ek ▸ mt_indexD hu
theorem pe_bmK {T id : String} {name : Str} {r : V → List V → Hp → VK → Prop} {o e : Expr} {es : List Expr} {to : TE} {t : TA} {apos cpos : Pos} (pa : PlainAttrs T) (slot : Slot T name id) (hty : typeOf (.builtin id) = pure (.type "method_descriptor")) (hm : MtR X id r) (ho : PE X o to) (ha : PA X (e :: es) t)
    (hbase : attributeBase o name X.env (eval o X.env) = eval o X.env)
    (hfew : ((backTo cpos (starEach (e :: es) X.env)).all (fun x => !x.1) && (backToKw cpos (keywordEach [] X.env)).all (fun x => x.1.isSome)
      && decide ((e :: es).length + ([] : List Keyword).length + (if ([] : List Keyword).isEmpty then 0 else 1) < 30)) = true)
    (hline : (apos.endLine == cpos.line) = true) (hs : starEach (e :: es) X.env = (false, eval e X.env) :: starEach es X.env) (hplain : (backTo cpos (starEach es X.env)).any (·.1) = false) :
    PE X (.Call (.Attribute o name apos) (e :: es) [] cpos) (tBM K T r to t) := ek ▸ pe_bm pa slot hty hm ho ha hbase hfew hline hs hplain
end
end VL
set_option Elab.async false
set_option linter.all false
set_option maxRecDepth 100000
set_option maxHeartbeats 4000000
/-! calls of instances; defs whose one parameter takes all arguments -/
namespace VL
open PySem PySem.Spec PyProof.Rows L2 XR
theorem raw0 {P : Program} {w : World} {K : PySem.W.Frag} {mg : Str → Option Value} {base : Heap} {CX : CXT} {k : Nat} {f : Addr} {fd : FuncData} {ps : List Str} {sp : Sp} (F : FnOk P w K mg base CX k f fd ps sp) (hb : Binds K fd ps []) : FnR P w K mg base CX k f sp :=
  (F.raw hb .nil).imp fun vs H Q E h => by rw [List.append_nil]; exact h
section
variable {K : PySem.W.Frag} {B : Bs} {E : L2.St → XK} {sp : Sp} {wf : List Rf → Env → RQ → XQ → Prop} [hf : VF K sp wf] {C : Addr}
def vCallO (C : Addr) (wf : List Rf → Env → RQ → XQ → Prop) (wo : VW) (wa : Env → (List Rf → Env → Prop) → XQ → Prop) : VW := fun γ Q X => wo γ (fun r γ1 => peek r γ1 (isC C) ∧ wa γ1 (fun rs γ2 => peek r γ2 (isC C) ∧ wf (r :: rs) γ2 Q noX) X) X
instance {X : Cx} {tf : TE} {t : TA} {wo : VW} {wa : Env → (List Rf → Env → Prop) → XQ → Prop} [ho : VE K B E tf wo] [ha : VA K B E t wa] : VE K B E (StX.tCallO X C sp E0 tf t) (vCallO C wf wo wa) where
  run := fun {as γ σ G H Q Qv Xv} S h k kx => by
    refine ho.run S h (fun r γ1 as1 v G1 H1 p1 g1 S1 rr1 q1 => ?_) kx
    obtain ⟨a, dx, fs, rfl, e1⟩ := isC_ok S1 rr1 q1.1
    refine ⟨a, rfl, ha.run S1 q1.2 (fun rs γ2 as2 vs G2 H2 p2 g2 S2 rr2 q2 => ?_) (kx.mono p1 g1)⟩
    have rr := RR.mono rr1 p2 g2
    obtain ⟨a', dx', fs', e', e2⟩ := isC_ok S2 rr q2.1
    cases e'
    exact ⟨.inr ⟨dx', fs', e2⟩, hf.run S2 (.cons rr rr2) q2.2 ((k.mono p1 g1).mono p2 g2) kxno⟩
end
section
variable {P : Program} {w : World} {K : PySem.W.Frag} {mg : Str → Option Value} {base : Heap}
theorem okStarV {x qual : Str} {st : Stmt} {f : Addr} {fd : FuncData} {N : List Str} {pv : Str} {k : Nat} {fv : VSp} (F : Fun K x qual st f fd) (S : FnScope N [pv] (defScope st)) (hN : 1 ≤ N.length)
    (hb : ∀ (kV doc pm : Value) (an : Option Addr) (cdv ct : Value) (rest : List Value), bindArgs (PySem.W.fnOf x qual (defArgs st) (defBody st) (defScope st) .none kV doc pm an cdv ct) { pos := rest } = (do let t ← newTuple rest; pure [(pv, t)]))
    (body : ∀ (cdv : Value) (A : Around) (outer : List PySem.Env) (s : Shared) (H : Hp) (E : XK), Room k (A.deeper (envOfC qual (defScope st) s.heap.objs.size f cdv)) →
      ∃ t, PSs (cxOf (L2.CX P w) P w K mg base N qual (defScope st) f cdv A outer s H E) (defBody st) t ∧ ∃ wv, (∀ B : Bs, VS K B (fun _ => E) t wv) ∧ ∀ (ts : List T) (Qv : Rt → List T → Prop) (Xv : VErr → List T → Prop), fv ts Qv Xv → wv (env0 [false] ts (N.length - 1)) (endsX Qv Xv)) :
    FnR P w K mg base (L2.CX P w) (k + 1) f (XR.spStar (vsp K [false] fv)) := by
  refine XR.okStar F S hb fun cdv A outer s H vs Q E hr h => ?_
  obtain ⟨t, hp, wv, hv, go⟩ := body cdv A outer s H E hr
  obtain ⟨G, ts, Qv, Xv, vw, ar, nd, hf, kr, kx⟩ := h
  refine ⟨t, hp, ?_⟩
  have hl : vs.length = 1 := ar.len
  have S0 := start_ok (N := N) vw ar nd (by omega)
  have q := go ts Qv Xv hf
  rw [← hl] at q
  refine (hv _).run S0 q ⟨fun γ' as' σ' G' H' _ _ S' z => ?_, fun _ _ _ _ _ _ _ _ z => z.elim, fun _ _ _ _ _ _ _ _ z => z.elim, fun σ' r γ' as' v G' H' _ _ S' rr z => ?_, fun σ' e γ' as' d G' H' _ _ S' er z => ?_⟩
  · obtain ⟨o, f, z⟩ := fin_of S' z
    exact kr (.val .non) _ _ _ _ f Rp.non z
  · obtain ⟨rt, o, f, rr, z⟩ := rt_of S' rr z
    exact kr _ _ _ _ _ f rr z
  · obtain ⟨o, f, z⟩ := fin_of S' z
    exact kx e _ d G' H' f er z
end
instance {K : PySem.W.Frag} {fv : VSp} : VF K (XR.spStar (vsp K [false] fv)) (fun rs γ Q X => toTs rs γ fun ts γ1 => small ts.length ∧ callQ [false] fv [.val (.tup ts)] γ1 Q X) := ⟨fun {B as γ σ G H rs vs Q E1 Qv Xv} S rr h k kx => by
  obtain ⟨ts, γ1, G1, g1, S1, rp, hz, q⟩ := toTs_ok S rr h
  refine ⟨by rw [rp.length]; exact hz, fun p hp => ?_⟩
  obtain ⟨S2, g2⟩ := S1.lay (o := .tup vs) hp
  have rp2 : Rp K (L2.upd G1 p (.tup vs)) (.ref p) (.tup ts) := .tup (.inl upd_same) (rp.mono g2)
  exact call_ok S2 (.cons (show RR K B.ex as _ (.val (.tup ts)) (.ref p) from rp2) .nil) q (k.mono (List.prefix_refl _) (g1.trans g2)) (kx.mono (List.prefix_refl _) (g1.trans g2))⟩
end VL
set_option Elab.async false
set_option linter.all false
set_option maxRecDepth 100000
set_option maxHeartbeats 4000000
/-! comprehensions over an open list that stands as it is -/
namespace VL
open PySem PySem.Spec PyProof.Rows L2 XR
section
variable {γ1 : Env} {vs : List Nat} {step : T → Env → (Env → Prop) → Prop} {Q : RQ} {α : Type} {xs : List α} {f : α → T} {k : Nat}
theorem lc_live {ts : List T} (hon : ∀ out, nth (EL γ1 vs out).mem k = some (.mu (.lst ts))) (I : Nat → List T → Prop) (i0 : I 0 []) (hs : ∀ i t out, ts[i]? = some t → I i out → step t ((EL γ1 vs out).wipe vs) (NL γ1 vs (I (i + 1)))) (hd : ∀ out, I ts.length out → Q (.ref γ1.mem.length) (EL γ1 vs out)) : LcI (.live k ts) γ1 vs step Q := by
  unfold NL at hs
  refine ⟨fun i γ => ∃ out, γ = EL γ1 vs out ∧ I i out, ⟨EL γ1 vs [], .refl _, [], rfl, i0⟩, fun i γ2 h => ?_, fun i t γ2 e h => ?_, fun γ2 h => ?_⟩
  · obtain ⟨out, rfl, _⟩ := h
    exact hon out
  · obtain ⟨out, rfl, p⟩ := h
    exact hs i t out e p
  · obtain ⟨out, rfl, p⟩ := h
    exact hd out p
theorem lc_mapL (hon : ∀ out, nth (EL γ1 vs out).mem k = some (.mu (.lst (xs.map f)))) (g : α → T) (hs : ∀ (i : Nat) x out, xs[i]? = some x → out.length < xs.length → step (f x) ((EL γ1 vs out).wipe vs) (NL γ1 vs (fun o => o = out ++ [g x]))) (hd : Q (.ref γ1.mem.length) (EL γ1 vs (xs.map g))) : LcI (.live k (xs.map f)) γ1 vs step Q := by
  refine lc_live hon (fun i out => out = (xs.take i).map g) rfl (fun i t out e h => ?_) fun out h => ?_
  · subst h
    rw [List.getElem?_map] at e
    cases ex : xs[i]? with
    | none => rw [ex] at e; cases e
    | some x =>
      rw [ex] at e
      cases e
      have := hs i x ((xs.take i).map g) ex (by have := (List.getElem?_eq_some_iff.mp ex).1; rw [List.length_map, List.length_take]; omega)
      rw [XR.take_one ex, List.map_append]
      exact this
  · subst h
    rw [List.length_map, List.take_length]
    exact hd
end
end VL
set_option Elab.async false
set_option linter.all false
set_option maxRecDepth 100000
set_option maxHeartbeats 4000000
/-! isinstance(e, (C1, C2, ..)) of a handled error -/
namespace VL
open PySem PySem.Spec PyProof.Rows L2 XR
def clsT : Rf → Bool
  | .val (.ty _) => true
  | .val (.cls _) => true
  | _ => false
def okN : List Rf → Bool
  | [] => false
  | r :: rs => Nat.ble rs.length 900
def errAny (K : PySem.W.Frag) (D : Addr) : List Rf → (Bool → Prop) → Prop
  | [], Q => Q false
  | r :: rs, Q => match r with
    | .val c => ∃ b, ErrIs K D c b ∧ br b (rs.all clsT = true ∧ Q true) (errAny K D rs Q)
    | _ => False
section
variable {K : PySem.W.Frag} {B : Bs} {E : L2.St → XK} {ex : Addr × Value × Option Addr} {as : List Addr} {G : Hp} {D : Addr}
theorem clsT_all (vw : Same G H) : ∀ {rs : List Rf} {vs : List V}, RRs K ex as G rs vs → rs.all clsT = true → ∃ us, Paired ClsV vs us
  | [], _, .nil, _ => ⟨[], .nil⟩
  | r :: rs, v :: vs, .cons a b, h => by
    rw [List.all_cons, Bool.and_eq_true] at h
    obtain ⟨us, hu⟩ := clsT_all vw b h.2
    match r, a, h.1 with
    | .val (.ty n), a, _ => exact ⟨_, .cons (ClR.ok (.ty n) (show Rp K G v (.ty n) from a)) hu⟩
    | .val (.cls n), a, _ => exact ⟨_, .cons (ClR.ok (.cls n) (show Rp K G v (.cls n) from a)) hu⟩
theorem errAny_ok (vw : Same G H) : ∀ {rs : List Rf} {vs : List V} {Q : Bool → Prop}, RRs K ex as G rs vs → errAny K D rs Q → ∃ us b, Paired ClsV vs us ∧ PySem.W.kitAny K (.ref D) us = some b ∧ Q b
  | [], _, _, .nil, h => ⟨[], false, .nil, rfl, h⟩
  | r :: rs, v :: vs, Q, .cons a b, h => by
    match r, a, h with
    | .val c, a, h =>
      obtain ⟨x, ⟨_, u, hu, hk⟩, q⟩ := h
      have hv : ClsV v u := hu.ok (show Rp K G v c from a)
      cases x with
      | true =>
        obtain ⟨q1, q2⟩ := q
        obtain ⟨us, hus⟩ := clsT_all vw b q1
        exact ⟨u :: us, true, .cons hv hus, by unfold PySem.W.kitAny; rw [hk], q2⟩
      | false =>
        obtain ⟨us, y, hus, e, q2⟩ := errAny_ok vw b q
        exact ⟨u :: us, y, .cons hv hus, by unfold PySem.W.kitAny; rw [hk]; exact e, q2⟩
theorem errAny_asks {rs : List Rf} {Q : Bool → Prop} (h0 : okN rs = true) (h : errAny K D rs Q) : XR.Asks K D := by
  match rs, h0, h with
  | .val c :: rs, _, h =>
    obtain ⟨_, ⟨as_, _⟩, _⟩ := h
    exact as_
  | .ref k :: rs, _, h => exact h.elim
  | .err _ _ :: rs, _, h => exact h.elim
def vIsET (K : PySem.W.Frag) (we : VW) (wa : Env → (List Rf → Env → Prop) → XQ → Prop) : VW := fun γ Q X => we γ (fun r γ1 => wa γ1 (fun rs γ2 => match r with
  | .err D _ => okN rs = true ∧ errAny K D rs fun b => Q (.val (.bl b)) γ2
  | _ => False) X) X
instance {a : Addr} {cls : Value} {d : Option Addr} {te : TE} {ta : TA} {we : VW} {wa : Env → (List Rf → Env → Prop) → XQ → Prop} [he : VE K (B.hot a cls d) E te we] [ha : VA K (B.hot a cls d) E ta wa] :
    VE K (B.hot a cls d) E (tCB (rIsAT K cls d a) (tCons te (tCons (tTup ta) tNil))) (vIsET K we wa) where
  run := fun {as γ σ G H Q Qv Xv} S h k kx => by
    refine he.run S h (fun r1 γ1 as1 v1 G1 H1 p1 g1 S1 rr1 q1 => ?_) kx
    refine ha.run S1 q1 (fun rs γ2 as2 vs G2 H2 p2 g2 S2 rr2 q2 => ?_) (kx.mono p1 g1)
    have hl : vs.length = rs.length := by
      clear q2
      induction rr2 with
      | nil => rfl
      | cons _ _ ih => rw [List.length_cons, List.length_cons, ih]
    match r1, rr1, q2 with
    | .err D gs, rr1, q2 =>
      obtain ⟨h0, q2⟩ := q2
      have hz : rs.length ≤ 901 := by
        match rs, h0 with
        | _ :: rs, h0 => have := Nat.le_of_ble_eq_true h0; rw [List.length_cons]; omega
      refine ⟨by show _ ≤ sizeLine; rw [sizeLine_eq, hl]; omega, fun p hp => ?_⟩
      have as_ := errAny_asks h0 q2
      obtain ⟨us, b, hu, hk, q⟩ := errAny_ok S2.vw rr2 q2
      obtain ⟨S3, g3⟩ := S2.lay (o := .tup vs) hp
      have rr1 := (RR.mono rr1 p2 g2).mono (List.prefix_refl _) g3
      obtain ⟨rfl, ec, er⟩ := rr1
      have ec : cls = .ref D := ec
      subst ec
      have kk := kval (((k.mono p1 g1).mono p2 g2).mono (List.prefix_refl _) g3) S3 (.bl b) q
      rcases er with ⟨e1, _⟩ | ⟨dd, fs, e1, e2, _⟩
      · have e1 : d = none := e1
        exact .inr ⟨_, p, vs, us, b, rfl, e1, as_, rfl, upd_same, hu, hk, kk⟩
      · have e1 : d = some dd := e1
        exact .inl ⟨_, dd, p, fs, vs, us, b, rfl, e1, S3.vw _ _ e2, as_, rfl, upd_same, hu, hk, kk⟩
end
end VL
set_option Elab.async false
set_option linter.all false
set_option maxRecDepth 100000
set_option maxHeartbeats 4000000
/-! comprehensions whose item may raise: what a call lets out goes on through the block of names -/
namespace CpX
open PySem PySem.Spec PyProof.Rows L2
theorem frames_but {B B' h h' : Heap} : ∀ {l : List Env}, h.FunFrames B l → (∀ L ∈ frs l, h'.get? L = h.get? L) → (∀ b o, B'.get? b = some o → B.get? b = some o) → h'.FunFrames B' l
  | [], _, _, _ => trivial
  | env :: l, x, e, sub => by
    obtain ⟨hk, ⟨L, o, hL, none_, there, nf⟩, more⟩ := x
    have here : h'.get? L = h.get? L := e L (List.mem_filterMap.mpr ⟨env, List.mem_cons_self, hL⟩)
    refine ⟨hk, ⟨L, o, hL, ?_, here.trans there, nf⟩, frames_but more (fun b hb => ?_) sub⟩
    · match q : B'.get? L with
      | none => rfl
      | some u => have z := sub L u q; rw [none_] at z; cases z
    · obtain ⟨f, hf, q⟩ := List.mem_filterMap.mp hb
      exact e b (List.mem_filterMap.mpr ⟨f, List.mem_cons_of_mem _ hf, q⟩)
section
variable {X : Cx} {pins : List (Addr × Obj)} {σ : L2.St} {H5 : Hp} {s7 s8 : Shared} {u : Value} {E : XK} {W : WX} {ce : Env} {m : Str → Option Value}
theorem comp_air (hs : X.stack = X.env :: X.outer) (hf : X.env.frame = some X.env.locals) (hcf : ce.frame = X.env.frame) (tk : Takes X W) (hW : ∀ cls d H, E cls d H → W cls d σ H)
    (I : Inv X pins σ H5 s7) (hn : s7.heap.Ns ce.locals m) (hC : FpOk X pins H5 ce.locals) (c : CX X.prog X.w X.stack H5 s7 E u s8) :
    notedBy (model X.prog X.w) X.A ce (CompFails (model X.prog X.w) X.A X.xe ce) u s8 := by
  obtain ⟨a, B, H', cls, d, rfl, fly, hokB, ub, na, os, ag, hE⟩ := c
  generalize hCe : ce.locals = C at hn hC
  obtain ⟨c0, c1, c2, c3, c4, c5⟩ := hC
  have outC : C ∉ frs X.stack := fun z => (List.mem_cons.mp (I.stkSub C z)).elim c1 c2
  obtain ⟨oC, es, ep, atC, kindC, restC⟩ := hn
  have freeC : H' C = none := ub.free C oC atC c0
  have stays : B.StaysIn s8.heap := fly.1
  -- the state without the exception's objects and without the block of names
  obtain ⟨G, g1, g2⟩ := restrict s8.heap fun b => ((B.get? b).isSome || decide (b ∈ frs X.stack)) && !decide (b = C)
  obtain ⟨BX, b1, b2⟩ := restrict B fun b => !decide (b = C)
  have intoG : ∀ b o, b ≠ C → B.get? b = some o → G.get? b = some o := fun b o ne e => by
    rw [g1 b (by simp [e, ne])]
    exact stays b o e
  have frameG : ∀ b, b ∈ frs X.stack → G.get? b = s8.heap.get? b := fun b hb => g1 b (by simp [hb]; exact fun z => outC (z ▸ hb))
  have outG : ∀ b o, G.get? b = some o → s8.heap.get? b = some o ∧ b ≠ C ∧ ((B.get? b).isSome = true ∨ b ∈ frs X.stack) := fun b o e => by
    cases q : (((B.get? b).isSome || decide (b ∈ frs X.stack)) && !decide (b = C)) with
    | false => rw [g2 b q] at e; cases e
    | true =>
      rw [g1 b q] at e
      rw [Bool.and_eq_true, Bool.or_eq_true] at q
      exact ⟨e, by simpa using q.2, q.1.imp id (fun z => by simpa using z)⟩
  have ofBX : ∀ b o, BX.get? b = some o → b ≠ C ∧ B.get? b = some o := fun b o e => by
    cases q : (!decide (b = C)) with
    | false => rw [b2 b q] at e; cases e
    | true => rw [b1 b q] at e; exact ⟨by simpa using q, e⟩
  have toBX : ∀ b o, b ≠ C → B.get? b = some o → BX.get? b = some o := fun b o ne e => by rw [b1 b (by simp [ne])]; exact e
  have hokG : HOk X.prog X.w H' G := fun b o q => (hokB b o q).stay (fun y v hy r => intoG y v (fun z => by
    subst z
    rcases hy with hy | hy
    · rw [← hy, freeC] at q; cases q
    · rw [freeC] at hy; cases hy) r) (fun _ r => r) fun _ _ r => r
  have IG : Inv X pins σ H' { s7 with heap := G, gens := s8.gens, drawn := s8.drawn, toks := s8.toks } := by
    refine I.call (ch := [C]) ⟨fun b o e n hb hc => intoG b o (by simpa using hc) (ub.keep b o e n hb), fun b o e n hb hc => ?_, fun b o e n hc => ub.free b o e n, fun b o e hc => ?_, ub.tups, ub.frzs, ub.tbls⟩ hokG ag fun b hb => ?_
    · obtain ⟨sl, q⟩ := ub.slot b o e hb
      exact ⟨sl, (frameG b hb).trans q⟩
    · by_cases hb : b ∈ frs X.stack
      · obtain ⟨sl, q⟩ := ub.slot b o e hb
        exact ⟨_, (frameG b hb).trans q⟩
      · obtain ⟨o', q⟩ := ub.there b o e hb
        exact ⟨o', intoG b o' (by simpa using hc) q⟩
    · obtain rfl : b = C := by simpa using hb
      exact ⟨c3, c1, c4, c5⟩
  -- noted in the def's own frame
  have same : noteFrame (.ref a) ce = noteFrame (.ref a) X.env := by unfold noteFrame PySem.frameOf; rw [hcf]
  have hfr : X.A.frames = some (X.env :: X.outer) := by rw [I.ok.frames, hs]
  unfold notedBy
  rw [same]
  rw [hs] at fly
  refine HandSPX.looks_onZ Zc.steady hfr hf fly fun h9 held up9 => ?_
  have at8 : s8.heap.get? C = some oC := stays C oC (ub.keep C oC atC c0 outC)
  have nfC : ∀ vs, oC.data ≠ .fields vs := fun vs z => by rw [kindC] at z; cases z
  obtain ⟨slC, at9⟩ := up9 C oC at8 nfC
  refine ⟨m, hCe ▸ ⟨_, es, ep, at9, kindC, restC⟩, fun h' m' _ sb => ?_⟩
  rw [hCe] at sb
  -- the names let go
  obtain ⟨k1, k2, k3, oe, vs, T, oT, ts, he, hz, hd, h1, hnT, hTe, hT, hdT, h3⟩ := held
  have ne_of : ∀ {b : Addr} {o : Obj} {ws : Array Value}, h9.get? b = some o → o.data = .fields ws → b ≠ C := fun {b o ws} e q z => by
    subst z
    rw [at9] at e
    cases e
    exact nfC ws q
  have aC := ne_of he hd
  have tC := ne_of hT hdT
  have subBX : ∀ b o, BX.get? b = some o → B.get? b = some o := fun b o e => (ofBX b o e).2
  have noneBX : ∀ b, B.get? b = none → BX.get? b = none := fun b e => by
    match q : BX.get? b with
    | none => rfl
    | some o => have := subBX b o q; rw [e] at this; cases this
  have held' : HandSPX.HeldZ BX (X.env :: X.outer) a (Zc cls d) X.env.locals h' := by
    refine ⟨fun b o e => ?_, noneBX a k2, frames_but k3 (fun L hL => sb.2 L fun z => outC (by rw [hs, ← z]; exact hL)) subBX, oe, vs, T, oT, ts, (sb.2 a aC).trans he, hz, hd, h1, noneBX T hnT, hTe, (sb.2 T tC).trans hT, hdT, h3⟩
    obtain ⟨ne, e⟩ := ofBX b o e
    exact (sb.2 b ne).trans (k1 b o e)
  have he' : h'.get? a = some oe := (sb.2 a aC).trans he
  unfold PySem.passOn
  refine wpAny_bind (wpAny_field he' hd h1 ?_)
  rw [if_neg (show ¬ ((Value.ref T == Value.none) = true) from by simp)]
  have fin : wpAny (model X.prog X.w) X.A (setFlight (.ref a) ce.frame) (fun _ s4 => wpAny (model X.prog X.w) X.A (throw (.ref a) : Sem Value) (fun _ _ => False) X.xe s4) X.xe { s8 with heap := h' } := by
    rw [hcf, hf]
    refine HandSPX.setFlight_onZ held' fun h2 held2 up2 => wpAny_throw (tk _ _ ?_)
    refine ⟨a, BX, _, pins, σ, H', cls, d, rfl, IG, fun b o e hb => ?_, fun b o e nf => ?_, .inr (.inr (by rw [hs]; exact held2)), na, os, ag, hW cls d H' hE⟩
    · obtain ⟨e1, e2, e3⟩ := outG b o e
      rcases e3 with e3 | e3
      · obtain ⟨o', q⟩ := Option.isSome_iff_exists.mp e3
        have := stays b o' q
        rw [e1] at this
        cases this
        exact toBX b o e2 q
      · exact absurd e3 hb
    · obtain ⟨e1, e2, _⟩ := outG b o e
      obtain ⟨sl, q⟩ := up9 b o e1 nf
      obtain ⟨sl2, q2⟩ := up2 b { o with slots := sl } ((sb.2 b e2).trans q) nf
      exact ⟨sl2, q2⟩
  first
    | exact wpAny_bind (wpAny_pure (wpAny_bind fin))
    | exact wpAny_bind fin
end
end CpX
set_option Elab.async false
set_option linter.all false
set_option maxRecDepth 100000
set_option maxHeartbeats 4000000
/-! the rule of such a comprehension -/
namespace CpX
open PySem PySem.Spec PyProof.Rows L2
section
variable {X : Cx} {elt tg iter : Expr} {ifs : List Expr} {scope : Scope} {own : List (Str × Nat)} {pos pos' : Pos} {wi : TI} {g : TG} {tt : TT} {te : TE} {E : XK} {W : WX}
/-- its item's context: what a callee lets out is taken -/
abbrev ItemOk (X : Cx) (scope : Scope) (E : XK) (elt : Expr) (te : TE) : Prop := ∀ (s : Shared) (H : Hp) (C : Addr) (cl : List (Str × Addr)) (fp : List Addr) (xe : Value → Shared → Prop),
  Passes (L2.CX X.prog X.w) ((X.blk s H scope (compEnvC scope cl C X.env) fp).wish xe) E → PE ((X.blk s H scope (compEnvC scope cl C X.env) fp).wish xe) elt te
theorem lcx_run {pins : List (Addr × Obj)} {s : Shared} {σ : L2.St} {H : Hp} {Q : VK} {use : Option (Value → Sem Unit)} {Qf : Value → Shared → Prop}
    (hs : X.stack = X.env :: X.outer) (hf : X.env.frame = some X.env.locals) (tk : Takes X W) (hW : ∀ cls d σ H, E cls d H → W cls d σ H) (hc : X.calm = true) (hN : X.N.Nodup) (I : Inv X pins σ H s) (hi : PI X tg iter wi) (ok : BlkOk X.N X.env.scope scope own)
    (hg : ∀ (s : Shared) (H : Hp) (C : Addr) (cl : List (Str × Addr)) (fp : List Addr), PG (X.blk s H scope (compEnvC scope cl C X.env) fp) tg g)
    (ht : ∀ (s : Shared) (H : Hp) (C : Addr) (cl : List (Str × Addr)) (fp : List Addr), PTs (X.blk s H scope (compEnvC scope cl C X.env) fp) ifs tt)
    (he : ItemOk X scope E elt te) (hfs : ∀ x, foldedSetIterable iter X.env x = pure x) (h : tLc wi g tt te (own.map (·.2)) σ H Q)
    (land : ∀ D ce s' m H', Inv X pins σ H' s' → Q (.ref D) H' → s'.heap.Ns ce.locals m → FpOk X pins H' ce.locals → compEnds (model X.prog X.w) X.A X.xe use Qf (.ref D) ce (.ok .next) s') :
    wpAny (model X.prog X.w) X.A (comprehension (.ListComp elt [⟨tg, iter, ifs, 0⟩] scope pos) scope X.env pos' (newList []) false (eval iter X.env) use) Qf X.xe s := by
  have closed : ∀ y ∈ scope.names, y.2 = .free → ∃ c, X.env.cells.lookup y.1 = some c := fun y hy e => (ok.free y hy e).elim (fun z => I.ok.has _ (.inl z)) fun z => I.ok.has _ (.inr z)
  refine comprehension_at (use := use) rfl hfs (closure_ok closed) ok.kind (fun y hy e => by rw [ok.uniq y hy, e]) ?_
  refine thn (hi.run pins s σ H _ I h) fun xv s1 made1 => thn made1 fun itv s2 made2 => ?_
  obtain ⟨it, fp, tn, J, H2, rfl, I2, turns, st2, f2, q⟩ := made2
  refine wpAny_newObj_type (newEnv_comp ?_) (by show 0 ≤ sizeLine; decide)
  generalize eD : s2.heap.objs.size = D
  have noD : H2 D = none := I2.hok.fresh (Nat.le_of_eq eD)
  obtain ⟨Wn, ⟨m0, w0⟩, steps⟩ := q D noD
  -- the list is laid
  generalize e3 : ({ s2 with heap := s2.heap.push { cls := .type "list", data := .seq ([] : List Value).toArray } } : Shared) = s3
  have heap3 : s3.heap = s2.heap.push { cls := .type "list", data := .seq ([] : List Value).toArray } := by rw [← e3]
  generalize eH : upd H2 D (.lst []) = H3 at w0
  have I3 : Inv X pins σ H3 s3 := by
    rw [← e3, ← eH]
    refine I2.laid (t' := s2.toks) (fun b o z => Heap.get?_push_of_some _ z) (Nat.le_of_eq eD) ⟨Nat.zero_le _, [], 0, .nil, ?_⟩
    rw [← eD]
    exact Heap.get?_push_size _ rfl
  have f3 : ∀ b ∈ fp, FpOk X pins H3 b ∧ b < s3.heap.objs.size := fun b hb => by
    obtain ⟨o, z, _⟩ := turns.obj _ _ st2 b hb
    have lt : b < s2.heap.objs.size := Heap.lt_size z
    refine ⟨⟨?_, (f2 b hb).2⟩, by rw [heap3, Heap.size_push]; exact Nat.lt_succ_of_lt lt⟩
    rw [← eH, upd_ne (by rw [← eD]; exact Nat.ne_of_lt lt)]
    exact (f2 b hb).1
  have st3 : tn 0 s3.heap := turns.keep _ _ _ st2 fun b _ o z => by rw [heap3]; exact Heap.get?_push_of_some _ z
  -- the block of names
  have I4 := block_start I3 ok hN f3
  generalize ecl : cellsFrom (s3.heap.objs.size + 1) scope.names (cloFrom X.env.cells scope.names []) = cl at I4
  have pg := hg s3 H3 s3.heap.objs.size cl fp
  have pt := ht s3 H3 s3.heap.objs.size cl fp
  have pe := he s3 H3 s3.heap.objs.size cl fp
  obtain ⟨ce, ece⟩ : ∃ ce, ce = compEnvC scope cl s3.heap.objs.size X.env := ⟨_, rfl⟩
  rw [← ece] at I4 pg pt pe
  have eL : ce.locals = s3.heap.objs.size := by rw [ece]; rfl
  have eF : ce.frame = X.env.frame := by rw [ece]; rfl
  generalize e4 : ({ s3 with heap := pushCells (s3.heap.push { cls := .type "dict", data := .dict #[] }) scope.names } : Shared) = s4 at I4
  have st4 : tn 0 s4.heap := turns.keep _ _ _ st3 fun b _ o z => by rw [← e4]; exact pushCells_keeps _ _ _ _ (Heap.get?_push_of_some _ z)
  -- back in the def's context
  have back : ∀ {ps : List (Addr × Obj)} {τ : L2.St} {G : Hp} {r : Shared}, Inv (X.blk s3 H3 scope ce fp) ps τ G r → Inv X pins σ G r ∧ (∃ m, r.heap.Ns ce.locals m) ∧ FpOk X pins G ce.locals := fun {ps τ G r} J => by
    refine ⟨I3.call' (ch := fp) J.os J.base J.hok J.bare fun b hb => ?_, ?_, ?_⟩
    · obtain ⟨⟨_, z1, _, z3, z4, z5⟩, _⟩ := f3 b hb
      exact ⟨z3, z1, z4, z5⟩
    · obtain ⟨m, hm, _⟩ := J.loc
      exact ⟨m, hm⟩
    · have z : G ce.locals = none := J.free
      exact I3.fpOk (by rw [eL]; exact Nat.le_refl _) z
  have keepOk : ∀ {τ : L2.St} {G : Hp} {r : Shared}, Inv (X.blk s3 H3 scope ce fp) [] τ G r → (∀ b ∈ fp, G b = none) → ∀ b ∈ fp, FpOk (X.blk s3 H3 scope ce fp) [] G b := fun {τ G r} J no b hb =>
    ⟨no b hb, (J.ok.exf b hb).1, J.ok.exfs b hb, .inl hb, fun x c z => (J.ok.exf b hb).2 x c z, fun p hp => absurd (show p ∈ ([] : List (Addr × Obj)) ++ [] from hp) (by simp)⟩
  obtain ⟨R, eR⟩ : ∃ R, R = compEnds (model X.prog X.w) X.A X.xe use Qf (.ref D) ce := ⟨_, rfl⟩
  -- what the item's callees let out
  have air : Passes (L2.CX X.prog X.w) ((X.blk s3 H3 scope ce fp).wish (notedBy (model X.prog X.w) X.A ce fun e r => R (.error e) r)) E := fun ps τ G r u r' J c => by
    obtain ⟨J1, ⟨m, hm⟩, J3⟩ := back (Inv.unwish J)
    have z := comp_air hs hf eF tk (fun cls d H hE => hW cls d σ H hE) J1 hm J3 c
    have same : (fun e r => R (.error e) r) = CompFails (model X.prog X.w) X.A X.xe ce := by
      rw [eR]
      funext e r
      cases use <;> rfl
    rw [same]
    exact z
  have pe := pe _ air
  have loop : codeAny (model X.prog X.w) X.A (.compLoop (.ListComp elt [⟨tg, iter, ifs, 0⟩] scope pos) 0 (.ref it) (.ref D) ce) R s4 := by
    refine compLoop_any (fun n r => ∃ i G, Inv (X.blk s3 H3 scope ce fp) [] (wipe σ (own.map (·.2))) G r ∧ tn i r.heap ∧ (∀ b ∈ fp, G b = none) ∧ Wn i n G) ?_ m0 ⟨0, H3, I4, st4, fun b hb => (f3 b hb).1.1, w0⟩
    rintro n r5 ⟨i, G5, J5, st5, n5, w5⟩
    rcases steps i n G5 w5 with ⟨stop, qq⟩ | ⟨go, Nxt, hNxt, step⟩
    · refine thnF (turns.done (X.blk s3 H3 scope ce fp) rfl rfl rfl hc i [] r5 _ G5 (fun _ _ => False) J5 (keepOk J5 n5) st5 stop) fun _ r6 ⟨hr, J6⟩ => ?_
      subst hr
      obtain ⟨J7, ⟨m, hm⟩, J8⟩ := back J6
      rw [eR]
      exact land D ce r6 m G5 J7 qq hm J8
    · refine thnF (turns.item (X.blk s3 H3 scope ce fp) rfl rfl rfl hc i [] r5 _ G5 (fun _ _ => False) J5 (keepOk J5 n5) st5 go) fun _ r6 ⟨u, hr, more⟩ => ?_
      subst hr
      refine thnF more fun _ r7 ⟨x, G7, J7, rx, y7, st7, n7⟩ => ?_
      refine thnF (pg.run _ r7 _ G7 x u _ (J7.pinned (keepOk J7 n7) (turns.obj _ _ st7)) rx (step x G7 y7)) fun _ r8 ⟨τ, G8, J8, sameW, q8⟩ => ?_
      refine thnF (pt.run _ r8 τ G8 _ J8 q8) fun b r9 ⟨G9, J9, q9⟩ => ?_
      have close : ∀ {r : Shared} {G : Hp}, Inv (X.blk s3 H3 scope ce fp) ([] ++ pinsAt fp r7.heap) τ G r → Nxt G → ∃ m, m < n ∧ ∃ i G, Inv (X.blk s3 H3 scope ce fp) [] (wipe σ (own.map (·.2))) G r ∧ tn i r.heap ∧ (∀ b ∈ fp, G b = none) ∧ Wn i m G := fun {r G} J nx => by
        obtain ⟨m', less, w'⟩ := hNxt G nx
        have stay : ∀ b ∈ fp, ∀ o, r7.heap.get? b = some o → r.heap.get? b = some o ∧ G b = none := fun b hb o z => by
          have := J.pin (b, o) (List.mem_append_right _ (List.mem_append_right _ (mem_pinsAt hb z)))
          exact ⟨this.1, this.2.1⟩
        refine ⟨m', less, i + 1, G, Inv.weak (Inv.unpinned (pins := []) J) (by rw [← sameW, wipe_length]) (fun j v z => (wipe_some (by rw [sameW]; exact z)).1), turns.keep _ _ _ st7 fun b hb o z => (stay b hb o z).1, fun b hb => ?_, w'⟩
        obtain ⟨o, z, _⟩ := turns.obj _ _ st7 b hb
        exact (stay b hb o z).2
      cases b with
      | false => exact close J9 (by simpa using q9)
      | true =>
        rw [if_pos rfl] at q9 ⊢
        refine wpAny_mono (pe.run _ r9 τ G9 _ (Inv.wish J9 _) q9) (fun z r10 done => ?_) fun _ _ z => z
        obtain ⟨yv, G10, J10, ry, acc, hD, hz, nx⟩ := done
        exact L2.app_ok (X := X.blk s3 H3 scope ce fp) (Inv.unwish J10) hD hz ry fun r11 J11 => close J11 nx
  have start := codeAny_compStart_list loop (turns.self X.A 0 _ _ _ st4 loop)
  subst eR ece e4 ecl
  exact start
end
end CpX
set_option Elab.async false
set_option linter.all false
set_option maxRecDepth 100000
set_option maxHeartbeats 4000000
/-! such comprehensions as a value, and stored on one line; their reading over values -/
namespace CpX
open PySem PySem.Spec PyProof.Rows L2
/-- the reading of a comprehension whose item may raise -/
def tLcX (wi : TI) (g : TG) (tt : TT) (te : TE) (vs : List Nat) : TE := fun σ H Q => tLc wi g tt te vs σ H Q
section
variable {X : Cx} {elt tg iter : Expr} {ifs : List Expr} {scope : Scope} {own : List (Str × Nat)} {pos : Pos} {wi : TI} {g : TG} {tt : TT} {te : TE} {E : XK} {W : WX}
theorem pe_lcX (hs : X.stack = X.env :: X.outer) (hf : X.env.frame = some X.env.locals) (tk : Takes X W) (hW : ∀ cls d σ H, E cls d H → W cls d σ H) (hc : X.calm = true) (hN : X.N.Nodup) (hi : PI X tg iter wi) (ok : BlkOk X.N X.env.scope scope own)
    (hg : ∀ (s : Shared) (H : Hp) (C : Addr) (cl : List (Str × Addr)) (fp : List Addr), PG (X.blk s H scope (compEnvC scope cl C X.env) fp) tg g)
    (ht : ∀ (s : Shared) (H : Hp) (C : Addr) (cl : List (Str × Addr)) (fp : List Addr), PTs (X.blk s H scope (compEnvC scope cl C X.env) fp) ifs tt)
    (he : ItemOk X scope E elt te) (hfs : ∀ x, foldedSetIterable iter X.env x = pure x := by intro _; rfl) :
    PE X (.ListComp elt [⟨tg, iter, ifs, 0⟩] scope pos) (tLcX wi g tt te (own.map (·.2))) := by
  refine ⟨fun pins s σ H Q I h => ?_⟩
  rw [eval_ListComp]
  refine lcx_run hs hf tk hW hc hN I hi ok hg ht he hfs h fun D ce s' m H' J q hm fC => ⟨m, hm, fun h2 sb => ?_⟩
  obtain ⟨z0, z1, z2, z3, z4, z5⟩ := fC
  exact ⟨.ref D, H', J.turned (t' := s'.toks) (fun b o ne e => (sb.2 b ne).trans e) z0 z1 z3 z4 z5, rfl, q⟩
theorem ps_setLcX {i : Nat} {y : Str} {py spos : Pos} (hs : X.stack = X.env :: X.outer) (hf : X.env.frame = some X.env.locals) (tk : Takes X W) (hW : ∀ cls d σ H, E cls d H → W cls d σ H) (hc : X.calm = true) (hN : X.N.Nodup)
    (hy : X.N[i]? = some y) (hyl : X.env.scope.names.lookup y = some .local) (hsw : swapsWith (.ListComp elt [⟨tg, iter, ifs, 0⟩] scope pos) (some (.Name y py)) spos.line X.env = pure true) (hi : PI X tg iter wi) (ok : BlkOk X.N X.env.scope scope own)
    (hg : ∀ (s : Shared) (H : Hp) (C : Addr) (cl : List (Str × Addr)) (fp : List Addr), PG (X.blk s H scope (compEnvC scope cl C X.env) fp) tg g)
    (ht : ∀ (s : Shared) (H : Hp) (C : Addr) (cl : List (Str × Addr)) (fp : List Addr), PTs (X.blk s H scope (compEnvC scope cl C X.env) fp) ifs tt)
    (he : ItemOk X scope E elt te) (hfs : ∀ x, foldedSetIterable iter X.env x = pure x := by intro _; rfl) :
    PS X (.Assign [.Name y py] (.ListComp elt [⟨tg, iter, ifs, 0⟩] scope pos) spos) (tAsg (tLcX wi g tt te (own.map (·.2))) (gName i)) := by
  refine ⟨fun pins s σ H D I h => ?_⟩
  rw [exec_Assign_Name_used _ _ _ _ hsw]
  refine wpAny_bind (wpAny_standAt (wpAny_bind ?_))
  have h2 : tLc wi g tt te (own.map (·.2)) σ H (fun x H1 => gName i x σ H1 D.nx) := h
  show wpAny _ X.A (do let _ ← comprehension (.ListComp elt [⟨tg, iter, ifs, 0⟩] scope pos) scope X.env (firstIterPos [⟨tg, iter, ifs, 0⟩] pos) (newList []) false (eval iter X.env) (some (assign (.Name y py) X.env))) _ _ s
  refine wpAny_bind (thn (lcx_run (Qf := fun _ r => SP X pins D .next r) hs hf tk hW hc hN I hi ok hg ht he hfs h2 fun L ce s' m H' J q hm fC => ?_) fun _ _ hq => wpAny_pure (wpAny_pure hq))
  refine wpAny_assign_Name (store_ok2 (v := V.ref L) J hN hy (.inl hyl) rfl (fun s2 J2 ⟨a, sb, there⟩ => ?_) (.inr hyl))
  obtain ⟨z0, z1, z2, z3, z4, z5⟩ := fC
  have ne : ce.locals ≠ a := there.elim (fun z => by rw [z]; exact z1) fun z e => z4 y a z e.symm
  exact ⟨m, hm.sameBut sb ne, fun h3 sb3 => ⟨_, H', J2.turned (t' := s2.toks) (fun b o hb e => (sb3.2 b hb).trans e) z0 z1 z3 z4 z5, q⟩⟩
end
end CpX
namespace VL
open PySem PySem.Spec PyProof.Rows L2 XR CpX
section
variable {K : PySem.W.Frag} {B : Bs}
theorem wipe_state {as : List Addr} {γ : Env} {σ σ' : L2.St} {G H : Hp} {vs : List Nat} (S : StR K B as γ σ' G H) (h : L2.wipe σ' vs = L2.wipe σ vs) : StR K B as (γ.wipe vs) σ G H :=
  (S.wipe vs).rewipe (vs := vs) h.symm fun i r e => Env.wipe_none γ e
def vLcX (wi : Env → (Src → Env → Prop) → XQ → Prop) (wg : Rf → Env → (Env → Prop) → XQ → Prop) (wt : Env → (Bool → Env → Prop) → XQ → Prop) (we : VW) (vs : List Nat) : VW := fun γ Q X => wi γ (fun src γ1 =>
  LcI src γ1 vs (fun t γ2 N => wg (.val t) γ2 (fun γ3 => wt γ3 (fun c γ4 => br c (we γ4 (fun r γ5 => toT r γ5 fun t' γ6 => appQ γ1.mem.length t' γ6 N) (fun e γ5 => X e (γ5.wipe vs))) (N γ4)) noX) noX) Q) X
instance {E1 : XK} {wi : TI} {g : TG} {tt : TT} {te : TE} {vs is : List Nat} {vi : Env → (Src → Env → Prop) → XQ → Prop} {vg : Rf → Env → (Env → Prop) → XQ → Prop} {vt : Env → (Bool → Env → Prop) → XQ → Prop} {ve : VW} [hi : VI K B (fun _ => E1) wi vi] [hg : VG K B (fun _ => E1) g vg is] [ht : VT K B (fun _ => E1) tt vt] [he : VE K B (fun _ => E1) te ve] [hs : SubL is vs] :
    VE K B (fun _ => E1) (tLcX wi g tt te vs) (vLcX vi vg vt ve vs) where
  run := fun {as γ σ G H Q Qv Xv} S h k kx => by
    refine hi.run S h (fun src γ1 as1 G1 H1 J p1 g1 S1 ok q1 => ?_) kx
    intro Da hD
    obtain ⟨⟨I, ⟨γ0, le0, i0⟩, on, step, done⟩⟩ := q1
    have SD := (S1.alloc (t := .lst []) (o := .lst []) hD ⟨[], upd_same, .nil⟩)
    have lD : (as1 ++ [Da]).length = γ1.mem.length + 1 := by rw [List.length_append, S1.mlen]; rfl
    have aD : (as1 ++ [Da])[γ1.mem.length]? = some Da := by rw [← S1.mlen, List.getElem?_append_right (Nat.le_refl _), Nat.sub_self]; rfl
    obtain ⟨as0, G0, pp0, gg0, SS0⟩ := StR.le le0 (SD.wipe vs) (List.prefix_refl _) lD
    refine ⟨fun i m H' => m = src.ts.length - i ∧ i ≤ src.ts.length ∧ ∃ as' γ' G', as1 ++ [Da] <+: as' ∧ Same G1 G' ∧ StR K B as' γ' σ G' H' ∧ I i γ', ⟨_, rfl, Nat.zero_le _, as0, γ0, G0, pp0, gg0, SS0, i0⟩, ?_⟩
    rintro i m H' ⟨rfl, hi', as', γ', G', p', g', S', inv⟩
    have pq : as1 <+: as' := (List.prefix_append _ _).trans p'
    obtain ⟨go, stop, yld⟩ := ok pq g' S' (on i γ' inv)
    by_cases hlt : i < src.ts.length
    · refine .inr ⟨go i hlt, fun H'' => i + 1 ≤ src.ts.length ∧ ∃ as'' γ'' G'', as1 ++ [Da] <+: as'' ∧ Same G1 G'' ∧ StR K B as'' γ'' σ G'' H'' ∧ I (i + 1) γ'', fun H'' q => ⟨_, by omega, rfl, q.1, q.2⟩, fun x H'' hy => ?_⟩
      obtain ⟨G2, t, et, g2, S2, rp⟩ := yld i x H'' hlt hy
      have S2' : StR K B as' (γ'.wipe vs) (L2.wipe σ vs) G2 H'' := (S2.wipe vs).rewipe (vs := vs) (wipe_wipe σ vs) fun i r e => Env.wipe_none γ' e
      refine hg.run S2' (r := .val t) rp (step i t γ' et inv) (fun γ3 as3 σ3 G3 H3 p3 g3 S3 w3 q3 => ?_) kxno
      have ws : L2.wipe σ3 vs = L2.wipe σ vs := (w3 vs hs.h).trans (wipe_wipe σ vs)
      refine ⟨ws, ht.run S3 q3 (fun b γ4 as4 b' G4 H4 p4 g4 S4 e q4 => ?_) kxno⟩
      cases e
      have gG : Same G1 G4 := (g'.trans g2).trans (g3.trans g4)
      have pP : as1 ++ [Da] <+: as4 := p'.trans (p3.trans p4)
      have fin : ∀ {γ5 : Env} {as5 : List Addr} {G5 H5 : Hp}, Same G1 G5 → as1 ++ [Da] <+: as5 → StR K B as5 γ5 σ3 G5 H5 → (∃ γ6, Le (γ1.mem.length + 1) (γ5.wipe vs) γ6 ∧ I (i + 1) γ6) → i + 1 ≤ src.ts.length ∧ ∃ as'' γ'' G'', as1 ++ [Da] <+: as'' ∧ Same G1 G'' ∧ StR K B as'' γ'' σ G'' H5 ∧ I (i + 1) γ'' := by
        rintro γ5 as5 G5 H5 gg pp S5 ⟨γ6, le6, i6⟩
        obtain ⟨as7, G7, p7, g7, S7⟩ := StR.le le6 (wipe_state S5 ws) pp lD
        exact ⟨hlt, as7, γ6, G7, p7, gg.trans g7, S7, i6⟩
      cases b with
      | false => exact fin gG pP S4 q4
      | true =>
        refine he.run S4 q4 (fun r γ5 as5 v G5 H5 p5 g5 S5 rr5 q5 => ?_) fun e γ5 as5 d G5 H5 p5 g5 S5 er q5 => ?_
        · obtain ⟨t', γ6, G6, g6, S6, rp6, q6⟩ := toT_ok S5 rr5 q5
          have pp : as1 ++ [Da] <+: as5 := pP.trans p5
          obtain ⟨acc, e1, e2, γ7, S7, q7⟩ := app_ok S6 (pre_get pp aD) rp6 q6
          exact ⟨acc, e1, e2, fin (gG.trans (g5.trans g6)) pp S7 q7⟩
        · exact kx e _ as5 d G5 H5 (p1.trans ((List.prefix_append _ _).trans (pP.trans p5))) (g1.trans (gG.trans g5)) (wipe_state S5 ws) er q5
    · have e : i = src.ts.length := by omega
      subst e
      refine .inl ⟨stop, k (.ref γ1.mem.length) _ _ _ _ _ (p1.trans pq) (g1.trans g') S' ⟨Da, pre_get p' aD, rfl⟩ (done γ' inv)⟩
end
end VL
set_option Elab.async false
set_option linter.all false
set_option maxRecDepth 100000
set_option maxHeartbeats 4000000
/-! except without a name -/
namespace VL
open PySem PySem.Spec PyProof.Rows L2 XR
section
variable {K : PySem.W.Frag} {B : Bs} {E : L2.St → XK}
def tTryO (K : PySem.W.Frag) (c : Value) (ts : Addr → Value → Option Addr → TS) (tb : WX → TS) : TS := fun D σ H => tb (wOnly K c ts (fun _ _ _ _ => False) D) D σ H
theorem ps_tryO {X : Cx} {x : Str} {c : Value} {body suite : List Stmt} {b₀ : Stmt} {np pos pos' : Pos} {tb : WX → TS} {ts : Addr → Value → Option Addr → TS} (hs : X.stack = X.env :: X.outer) (hf : X.env.frame = some X.env.locals) (hc : Names X x c) (tk : Takes X (fun _ _ _ _ => False))
    (hb : ∀ (W : WX) (pn : List (Addr × Obj)) (xe : Value → Shared → Prop), Takes (X.tr pn xe) W → PassesOwn (model X.prog X.w) X.A X.env xe → PSs (X.tr pn xe) body (tb W))
    (hsu : ∀ (a : Addr) (oe : Obj) (cls : Value) (d : Option Addr) (pn : List (Addr × Obj)), Zc cls d oe → (∃ vs, oe.data = .fields vs) → PSs (X.suite a ((a, oe) :: pn)) (b₀ :: suite) (ts a cls d)) :
    PS X (.Try body [.ExceptHandler (some (.Name x np)) none (b₀ :: suite) pos'] [] [] pos) (tTryO X.K c ts tb) := ps_try_only hs hf hc tk hb hsu
def suiteO (D : VEnds) : VEnds := ⟨fun γ2 => D.nx γ2.noErr, rtE D.rt, fun γ2 => D.bk γ2.noErr, fun γ2 => D.ct γ2.noErr, noX⟩
def vTryO (K : PySem.W.Frag) (c : Value) (wb ws : VSW) : VSW := fun γ D => wb γ ⟨D.nx, D.rt, D.bk, D.ct, fun e γ1 => PySem.W.exmOne K (.ref e.1) c = some true ∧ ws γ1.noErr (suiteO D)⟩
instance {c : Value} {ts : Addr → Value → Option Addr → TS} {tb : WX → TS} {wb ws : VSW} [hb : ∀ W : WX, VS K B (WE W) (tb W) wb] [hs : ∀ (a : Addr) (cls : Value) (d : Option Addr), VS K (B.hot a cls d) E (ts a cls d) ws] : VS K B E (tTryO K c ts tb) (vTryO K c wb ws) where
  run := fun {as γ σ G H D Dv} S h k => by
    refine (hb _).run S h ⟨k.nx, k.bk, k.ct, k.rt, fun σ1 e γ1 as1 d G1 H1 p1 g1 S1 er q1 => ?_⟩
    obtain ⟨em, q1⟩ := q1
    refine ⟨true, em, fun _ a ha => ?_, fun z => by cases z⟩
    have S2 : StR K (B.hot a (.ref e.1) d) as1 γ1.noErr σ1 G1 H1 := S1.reex rfl rfl rfl
    have back : ∀ {γ2 : Env} {as2 : List Addr} {σ2 : L2.St} {G2 H2 : Hp}, StR K (B.hot a (.ref e.1) d) as2 γ2 σ2 G2 H2 → StR K B as2 γ2.noErr σ2 G2 H2 := fun {γ2 as2 σ2 G2 H2} S4 => S4.reex rfl rfl rfl
    refine (hs a (.ref e.1) d).run (Dv := suiteO Dv) S2 q1 ⟨fun γ2 as2 σ2 G2 H2 p2 g2 S4 q => ?_, fun γ2 as2 σ2 G2 H2 p2 g2 S4 q => ?_, fun γ2 as2 σ2 G2 H2 p2 g2 S4 q => ?_, fun σ2 r γ2 as2 v G2 H2 p2 g2 S4 rr q => ?_, fun σ2 => kxno⟩
    · exact k.nx _ _ _ _ _ (p1.trans p2) (g1.trans g2) (back S4) q
    · exact k.bk _ _ _ _ _ (p1.trans p2) (g1.trans g2) (back S4) q
    · exact k.ct _ _ _ _ _ (p1.trans p2) (g1.trans g2) (back S4) q
    · have S5 : StR K B as2 γ2.noErr σ2 G2 H2 := back S4
      cases r with
      | err D gs => exact q.elim
      | val t => exact k.rt σ2 (.val t) γ2.noErr as2 v G2 H2 (p1.trans p2) (g1.trans g2) S5 rr q
      | ref n => exact k.rt σ2 (.ref n) γ2.noErr as2 v G2 H2 (p1.trans p2) (g1.trans g2) S5 rr q
end
end VL
set_option Elab.async false
set_option linter.all false
set_option maxRecDepth 100000
set_option maxHeartbeats 4000000
/-! C.m(*xs), m a staticmethod with a star parameter -/
namespace XR
open PySem PySem.Spec PyProof.Rows L2
def tStatS (K : PySem.W.Frag) (C : Addr) (sp : Sp) (ES : L2.St → XK) (ta te : TE) : TE := fun σ H Q => ta σ H fun x H1 => x = .ref C ∧ te σ H1 fun y H2 => ∃ a xs, y = V.ref a ∧ (SqT K H2 a xs ∨ SqL K H2 a xs) ∧ sp xs H2 Q (ES σ)
section
variable {X : Cx} {CX : CXT} {k : Nat} {C p g : Addr} {sp : Sp} {m : Str} {o e : Expr} {apos pos sq : Pos} {ta te : TE} {ES : L2.St → XK}
theorem star_one {M : Model} {A : Around} {F : Value → Shared → Prop} {s : Shared} {env : Env} {Q : Value → Shared → Prop} (hb : attributeBase o m env (eval o env) = eval o env) (hst : starEach [.Starred e sq] env = [(true, eval e env)])
    (h : wpAny M A (eval o env) (fun ov s₁ => wpAny M A (getAttr ov m true) (fun f s₂ => wpAny M A (callWith pos f [] (backTo pos (starEach [.Starred e sq] env)) []) Q F s₂) F s₁) F s) : wpAny M A (eval (.Call (.Attribute o m apos) [.Starred e sq] [] pos) env) Q F s := by
  rw [hst] at h
  have f1 : methodCallForm ([Expr.Starred e sq].length + ([] : List Keyword).length) (backTo pos [(true, eval e env)]) [] = false := rfl
  have f2 : methodCallPos false o env apos pos = pure pos := rfl
  have f3 : ∀ ov, calleeOf false o env ov m = (getAttr ov m true >>= fun v => pure (v, [])) := fun _ => rfl
  rw [arm_eval_Call, hb, hst, show backToKw pos (keywordEach [] env) = [] from rfl]
  refine wpAny_bind (wpAny_mono h (fun ov s₁ q => wpAny_bind (wpAny_standAt ?_)) fun _ _ z => z)
  unfold methodCall
  rw [f1, f2, f3]
  refine wpAny_bind (wpAny_holding (wpAny_bind (wpAny_mono q (fun f s₂ q2 => wpAny_pure (wpAny_bind (wpAny_pure q2))) fun _ _ z => z)))
theorem attr_stat {pins : List (Addr × Obj)} {σ : L2.St} {H : Hp} {s : Shared} {b : Bool} {A : Around} {F : Value → Shared → Prop} {Q : Value → Shared → Prop} (I : Inv X pins σ H s) (r : CStat X.K C p g m) (h : ∀ s', Inv X pins σ H s' → Q (.ref g) s') :
    wpAny (model X.prog X.w) A (getAttr (.ref C) m b) Q F s := by
  obtain ⟨rest, hp⟩ := r.rc
  exact PySem.W.cls_bind I.kIn r.rd r.at_ (wpAny_call (PySem.W.sm_get (s := { s with toks := s.toks + 1 }) I.kIn hp (PySem.W.handed_on rfl (h _ (I.tok _)))))
theorem pe_statS {K : PySem.W.Frag} (ek : X.K = K) (ho : PE X o ta) (r : CStat X.K C p g m) (F : FnR X.prog X.w X.K X.mg X.base CX k g sp) (hr : Room k X.A) (hk : PySem.W.keepIn X.K (.ref g) = true) (hx : ∀ σ, PassesAt CX X σ (ES σ)) (he : PE X e te)
    (hst : starEach [.Starred e sq] X.env = [(true, eval e X.env)] := by rfl) (hb : attributeBase o m X.env (eval o X.env) = eval o X.env := by rfl) :
    PE X (.Call (.Attribute o m apos) [.Starred e sq] [] pos) (tStatS K C sp ES ta te) := by
  subst ek
  refine ⟨fun pins s σ H Q I h => ?_⟩
  refine star_one hb hst (thn (ho.run pins s σ H _ I h) fun u s1 ⟨x, H1, I1, rx, ex, q⟩ => ?_)
  subst ex
  obtain rfl : u = Value.ref C := rx
  refine attr_stat I1 r fun s2 I2 => ?_
  refine PySem.W.callWith_S (h₀ := X.base) I.ok.mod.kin hk (thn (he.run pins s2 σ H1 _ I2 q) fun v s3 ⟨y, H2, I3, ry, a, xs, ey, hxs, q2⟩ => ?_) hst
  subst ey
  obtain rfl : v = Value.ref a := ry
  exact StX.star_any I3 hxs fun us s4 I4 rv => ⟨I4.kIn, run_atR F hr rfl (hx σ) I4 rv q2⟩
end
end XR
namespace VL
open PySem PySem.Spec PyProof.Rows L2 XR
section
variable {K : PySem.W.Frag} {B : Bs} {E : L2.St → XK} {sp : Sp} {wf : List Rf → Env → RQ → XQ → Prop} [hf : VF K sp wf] {C : Addr}
theorem rrs_vals {ex : Addr × Value × Option Addr} {as : List Addr} {G : Hp} : ∀ {vs : List V} {ts : List T}, RpAll K G vs ts → RRs K ex as G (ts.map Rf.val) vs
  | _, _, .nil => .nil
  | _, _, .cons a b => .cons a (rrs_vals b)
def vStatS (C : Addr) (wf : List Rf → Env → RQ → XQ → Prop) (wo we : VW) : VW := fun γ Q X => wo γ (fun r γ1 => r = .val (.cls C) ∧ we γ1 (fun y γ2 => peek y γ2 fun u => seqT u fun _ ts => wf (ts.map Rf.val) γ2 Q X) X) X
instance {to te : TE} {wo we : VW} [ho : VE K B E to wo] [he : VE K B E te we] : VE K B E (tStatS K C sp E to te) (vStatS C wf wo we) where
  run := fun {as γ σ G H Q Qv Xv} S h k kx => by
    refine ho.run S h (fun r γ1 as1 v G1 H1 p1 g1 S1 rr1 q1 => ?_) kx
    obtain ⟨rfl, q1⟩ := q1
    have rr1 : Rp K G1 v (.cls C) := rr1
    cases rr1
    refine ⟨rfl, he.run S1 q1 (fun y γ2 as2 u G2 H2 p2 g2 S2 rr2 q2 => ?_) (kx.mono p1 g1)⟩
    obtain ⟨b, ts, a, acc, rfl, sq, rp, q3⟩ := peek_seq S2 rr2 q2
    refine ⟨a, acc, rfl, sq.or.symm, hf.run S2 (rrs_vals rp) q3 ((k.mono p1 g1).mono p2 g2) ((kx.mono p1 g1).mono p2 g2)⟩
end
end VL
set_option Elab.async false
set_option linter.all false
set_option maxRecDepth 100000
set_option maxHeartbeats 4000000
/-! x.split(sep), x.find(y), int(text) -/
namespace VL
open PySem PySem.Spec PyProof.Rows L2 XR
section
variable {K : PySem.W.Frag} {B : Bs} {E : L2.St → XK}
def rSplitS : V → List V → Hp → VK → Prop := fun x xs H Q => ∃ a b, x = .str a ∧ xs = [.str b] ∧ (b.length == 0) = false ∧ a.length + 2 ≤ sizeLine ∧ rNewStrs (Txt.split a b) H Q
def rFindS : V → List V → Hp → VK → Prop := fun x xs H Q => ∃ a b, x = .str a ∧ xs = [.str b] ∧ Q (.int (Txt.find a b)) H
theorem pe_splitS {X : Cx} {o e : Expr} {to te : TE} {apos pos : Pos} (ho : PE X o to) (he : PE X e te) (hs : starEach [e] X.env = [(false, eval e X.env)]) (hbase : attributeBase o "split" X.env (eval o X.env) = eval o X.env) (hline : (apos.endLine == pos.line) = true) :
    PE X (.Call (.Attribute o "split" apos) [e] [] pos) (tM1 rSplitS to te) := pe_split ho he hs hbase hline
theorem pe_findS {X : Cx} {o e : Expr} {to te : TE} {apos pos : Pos} (ho : PE X o to) (he : PE X e te) (hs : starEach [e] X.env = [(false, eval e X.env)]) (hbase : attributeBase o "find" X.env (eval o X.env) = eval o X.env) (hline : (apos.endLine == pos.line) = true) :
    PE X (.Call (.Attribute o "find" apos) [e] [] pos) (tM1 rFindS to te) := pe_m1 PySem.F.slot_str_find PySem.F.type_str_find mt_find ho he hs hbase hline
/-- the parts of a text, by its signs -/
def parts (sep : List Nat) (a : Str) : List Str := (TL.spl sep 0 [] a.cps.toList).map SX.S
theorem split_parts (a : Str) {sep : List Nat} (h : sep ≠ []) (k : sep.all (· < 256) = true) : Txt.split a (SX.S sep) = parts sep a := by
  have := SX.split_S (a := a.cps.toList) h k
  rw [SX.S_tl] at this
  exact this
theorem spl_mem {sep : List Nat} : ∀ (k : Nat) (acc l : List Nat) (p : List Nat), p ∈ TL.spl sep k acc l → ∀ c ∈ p, c ∈ acc ∨ c ∈ l
  | k, acc, [], p, h, c, hc => by
    rw [TL.spl_nil] at h
    rw [List.mem_singleton.mp h] at hc
    exact .inl hc
  | 0, acc, d :: r, p, h, c, hc => by
    unfold TL.spl at h
    split at h
    · rcases List.mem_cons.mp h with h | h
      · rw [h] at hc; exact .inl hc
      · rcases spl_mem _ [] r p h c hc with z | z
        · cases z
        · exact .inr (List.mem_cons_of_mem _ z)
    · rcases spl_mem 0 (acc ++ [d]) r p h c hc with z | z
      · rcases List.mem_append.mp z with z | z
        · exact .inl z
        · rw [List.mem_singleton.mp z]; exact .inr List.mem_cons_self
      · exact .inr (List.mem_cons_of_mem _ z)
  | k + 1, acc, d :: r, p, h, c, hc => by
    unfold TL.spl at h
    rcases spl_mem k acc r p h c hc with z | z
    · exact .inl z
    · exact .inr (List.mem_cons_of_mem _ z)
theorem strOk_parts {sep : List Nat} {a : Str} (h : PyData.strOk a = true) : ∀ y ∈ parts sep a, PyData.strOk y = true := fun y hy => by
  obtain ⟨p, hp, rfl⟩ := List.mem_map.mp hy
  have h : a.cps.all (· < 0x110000) = true := h
  rw [Array.all_eq_true_iff_forall_mem] at h
  show (p.toArray : Array Nat).all (· < 0x110000) = true
  rw [Array.all_eq_true_iff_forall_mem]
  intro c hc
  rcases spl_mem 0 [] _ p hp c (by simpa using hc) with z | z
  · cases z
  · exact h c (by simpa using z)
theorem strs_rp {G : Hp} : ∀ {ys : List Str}, (∀ y ∈ ys, PyData.strOk y = true) → RpAll K G (ys.map V.str) (ys.map T.str)
  | [], _ => .nil
  | y :: ys, h => .cons (.str y (h y List.mem_cons_self)) (strs_rp fun z hz => h z (List.mem_cons_of_mem _ hz))
def vSplitM : Rf → List Rf → VW := fun r rs γ Q _ => arg1 rs fun y => peek r γ fun t => match t with
  | .str a => peek y γ fun u => match u with
    | .str b => ∃ sep, b = SX.S sep ∧ (sep.isEmpty = false ∧ sep.all (· < 256) = true) ∧ a.length + 2 ≤ sizeLine ∧ γ.new (.lst ((parts sep a).map T.str)) Q
    | _ => False
  | _ => False
instance : VM K B E rSplitS vSplitM where
  run := fun {as γ σ G H x rx vs rs Q Qv Xv} S rr rrs h kk _ => by
    unfold vSplitM arg1 at h
    split at h
    · cases rrs with | cons a0 b =>
      cases b
      obtain ⟨t, h, z⟩ := peek_rp S rr h
      split at h
      · cases z with | str _ ok =>
        obtain ⟨u, h, z2⟩ := peek_rp S a0 h
        split at h
        · cases z2 with | str _ ok2 =>
          obtain ⟨sep, rfl, ⟨h1, h2⟩, h3, h4⟩ := h
          have hne : sep ≠ [] := fun e => by rw [e] at h1; cases h1
          refine ⟨_, SX.S sep, rfl, rfl, ?_, h3, fun p hp => ?_⟩
          · rw [SX.S_len]
            cases sep with
            | nil => exact absurd rfl hne
            | cons _ _ => rfl
          · rw [split_parts _ hne h2]
            exact knew kk S (strs_rp (strOk_parts ok)) h4 hp
        · exact h.elim
      · exact h.elim
    · exact h.elim
def vFindM : Rf → List Rf → VW := fun r rs γ Q _ => arg1 rs fun y => peek r γ fun t => match t with
  | .str a => peek y γ fun u => match u with
    | .str b => Q (.val (.int (Txt.find a b))) γ
    | _ => False
  | _ => False
instance : VM K B E rFindS vFindM where
  run := fun {as γ σ G H x rx vs rs Q Qv Xv} S rr rrs h kk _ => by
    unfold vFindM arg1 at h
    split at h
    · cases rrs with | cons a0 b =>
      cases b
      obtain ⟨t, h, z⟩ := peek_rp S rr h
      split at h
      · cases z with | str _ ok =>
        obtain ⟨u, h, z2⟩ := peek_rp S a0 h
        split at h
        · cases z2 with | str _ ok2 =>
          exact ⟨_, _, rfl, rfl, kval kk S (.int _) h⟩
        · exact h.elim
      · exact h.elim
    · exact h.elim
def rIntS : List V → Hp → VK → Prop := fun xs H Q => ∃ a n, xs = [.str a] ∧ PySem.intText? a = some n ∧ a.length ≤ 640 ∧ Q (.int n) H
theorem call_intS {X : Cx} : CallR X (.type "int") rIntS := call_int_str
def vIntS : List Rf → VW := fun rs γ Q _ => arg1 rs fun r => peek r γ fun t => match t with
  | .str a => ∃ n, PySem.intText? a = some n ∧ a.length ≤ 640 ∧ Q (.val (.int n)) γ
  | _ => False
instance : VC K B E rIntS vIntS where
  run := fun {as γ σ G H vs rs Q Qv Xv} S rr h k _ => by
    unfold vIntS arg1 at h
    split at h
    · cases rr with | cons r1 b =>
      cases b
      obtain ⟨t, h, z⟩ := peek_rp S r1 h
      split at h
      · cases z with | str _ ok =>
        obtain ⟨n, h1, h2, h3⟩ := h
        exact ⟨_, n, rfl, h1, h2, kval k S (.int _) h3⟩
      · exact h.elim
    · exact h.elim
end
end VL
set_option Elab.async false
set_option linter.all false
set_option maxRecDepth 100000
set_option maxHeartbeats 4000000
/-! several except clauses, each with a name -/
namespace TrN
open PySem PySem.Spec PyProof.Rows L2
abbrev Clause := Value × Nat × (Addr → Value → Option Addr → TS)
def endAs (i : Nat) (D : Ends) : Ends := { nx := fun τ G => D.nx (τ.set i none) G, rt := D.rt, bk := fun τ G => D.bk (τ.set i none) G, ct := fun τ G => D.ct (τ.set i none) G }
def wList (K : PySem.W.Frag) (Wout : WX) (D : Ends) : List Clause → WX
  | [] => Wout
  | (c, i, ts) :: r => fun cls d σ H => ∃ b, PySem.W.exmOne K cls c = some b ∧ (b = true → ∀ a, H a = none → ts a cls d (endAs i D) (σ.set i (some (.ref a))) H) ∧ (b = false → wList K Wout D r cls d σ H)
inductive Cls (X : Cx) : List ExceptHandler → List Clause → Prop
  | nil : Cls X [] []
  | cons {x n : Str} {c : Value} {i : Nat} {ts : Addr → Value → Option Addr → TS} {b₀ : Stmt} {suite : List Stmt} {np hp : Pos} {hds : List ExceptHandler} {l : List Clause} (hi : X.N[i]? = some n) (hln : X.env.kindOf n = some .local) (hc : Names X x c)
      (hsu : ∀ (a : Addr) (oe : Obj) (cls : Value) (d : Option Addr) (pn : List (Addr × Obj)), Zc cls d oe → (∃ vs, oe.data = .fields vs) → PSs (X.suite a ((a, oe) :: pn)) (b₀ :: suite) (ts a cls d)) (r : Cls X hds l) :
      Cls X (.ExceptHandler (some (.Name x np)) (some n) (b₀ :: suite) hp :: hds) ((c, i, ts) :: l)
section
variable {X : Cx} {Wout : WX} {D : Ends} {pins : List (Addr × Obj)} {σ : L2.St} {H : Hp} {sI s : Shared} {a : Addr} {B h3 : Heap} {cls : Value} {d : Option Addr}
theorem clauses (hs : X.stack = X.env :: X.outer) (hf : X.env.frame = some X.env.locals) (hN : X.N.Nodup) (tk : Takes X Wout) (J : Inv X pins σ H sI) (nb : ∀ b o, sI.heap.get? b = some o → b ∉ frs X.stack → B.get? b = some o)
    (up : sI.heap.UpToSlots h3) (os : s.os = sI.os) (ag : AllBare s.gens) (na : H a = none) (fly : HandSPX.FlyingZ B (X.env :: X.outer) a (Zc cls d) h3) :
    ∀ {hds : List ExceptHandler} {l : List Clause}, Cls X hds l → wList X.K Wout D l cls d σ H → wpAny (model X.prog X.w) X.A (handleBy (.ref a) X.env hds) (SP X pins D) X.xe { s with heap := h3 } := by
  have ok := J.ok
  have J3 : Inv X pins σ H { s with heap := h3 } := J.landed nb fly.1 up os ag
  obtain ⟨oe3, vs3, he3, hz3, hd3⟩ := fly.there
  have outF : a ∉ frs (X.env :: X.outer) := fun hm => by
    obtain ⟨_, o, q, nf⟩ := fly.2.2.1.mem hm
    rw [he3] at q; cases q
    exact nf _ hd3
  have nL : a ≠ X.env.locals := fun z => outF (List.mem_filterMap.mpr ⟨X.env, List.mem_cons_self, by rw [hf, z]⟩)
  have nF : a ∉ X.fs := fun hm => by
    obtain ⟨e, he, q⟩ := List.mem_filterMap.mp hm
    exact outF (List.mem_filterMap.mpr ⟨e, List.mem_cons_of_mem _ he, q⟩)
  intro hds l hk
  induction hk with
  | nil =>
    intro w
    refine wpAny_handleBy_nil ?_
    obtain ⟨k1, k2, k3, oe, vs, T, oT, ts, he, hz, hd, h1, hr⟩ := id fly
    unfold PySem.passOn
    refine wpAny_bind (wpAny_field he hd h1 ?_)
    rw [if_neg (show ¬ ((Value.ref T == Value.none) = true) from by simp)]
    have fin : wpAny (model X.prog X.w) X.A (setFlight (.ref a) X.env.frame) (fun _ s4 => wpAny (model X.prog X.w) X.A (throw (.ref a) : Sem Flow) (SP X pins D) X.xe s4) X.xe { s with heap := h3 } := by
      rw [hf]
      refine HandSPX.setFlight_upZ fly fun h4 hh4 up4 => wpAny_throw (tk _ _ ?_)
      exact ⟨a, B, sI, pins, σ, H, cls, d, rfl, J, nb, up.trans up4, .inr (.inr (by rw [hs]; exact hh4)), na, os, ag, w⟩
    first
      | exact wpAny_bind (wpAny_pure (wpAny_bind fin))
      | exact wpAny_bind fin
  | @cons x n c i ts b₀ suite np hp hds2 l2 hi hln hc hsu r ih =>
    intro w
    obtain ⟨b, hb, yes, no⟩ := w
    have S3 := J3.suite he3 hd3 na nL nF
    refine wpAny_handleBy_cons (codeAny_handlers_test ?_) (by intro q; cases q)
    have looks : PySem.W.Looks (model X.prog X.w) h3 (typeOf (.ref a)) cls := fun A Q E s k q => wpAny_typeOf_ref (k _ _ he3) (by rw [hz3.1]; exact q)
    have match_ := PySem.W.exm_one (M := model X.prog X.w) J3.kIn looks hb
    have test : ∀ {Q : Value → Shared → Prop} {F : Value → Shared → Prop}, Q c { s with heap := h3 } → wpAny (model X.prog X.w) (X.A.mark (some (.ref a))) (eval (.Name x np) X.env) Q F { s with heap := h3 } := fun {Q F} q => by
      obtain ⟨hg, hdb, hm | ⟨hm, hv, hnn⟩⟩ := hc
      · exact ld_glob (X := X.suite a ((a, oe3) :: (X.pn ++ pins))) S3 hg hm q hdb
      · exact ld_blt (X := X.suite a ((a, oe3) :: (X.pn ++ pins))) S3 hg hm hv q hnn hdb
    refine test (match_.here ?_)
    cases b with
    | false => exact ih (no rfl)
    | true =>
      refine codeAny_handlers_suite_as ?_
      refine HandSPX.lands_againZ fly fun h4 fly4 up4 => ?_
      have J4 : Inv X pins σ H { s with heap := h4 } := J.landed nb fly4.1 (up.trans up4) os ag
      obtain ⟨oe4, vs4, he4, hz4, hd4⟩ := fly4.there
      have S4 := J4.suite he4 hd4 na nL nF
      refine store_ok (X := X.suite a ((a, oe4) :: (X.pn ++ pins))) (v := .ref a) S4 hN hi (.inl hln) rfl (fun s5 S5 => ?_) (.inr hln)
      refine wpAny_mono ((hsu a oe4 cls d (X.pn ++ pins) hz4 ⟨_, hd4⟩).run [] s5 _ H _ S5 (yes rfl a na)) (fun f s6 done => ?_) (fun _ _ z => False.elim z)
      have gone : ∀ {τ : L2.St} {G : Hp} {Q : Shared → Prop}, Inv (X.suite a ((a, oe4) :: (X.pn ++ pins))) [] τ G s6 → (∀ s7, Inv X pins (τ.set i none) G s7 → Q s7) →
          wpAny (model X.prog X.w) X.A (do bindName X.env n .none; unbindBehindTheSuite X.env n hp) (fun _ s7 => Q s7) X.xe s6 := fun {τ G Q} S6 hq => gone_ok (S6.unsuite ok) hN hi hln hq
      cases f with
      | ret u =>
        obtain ⟨v6, τ, G, S6, r6, q6⟩ := done
        exact gone S6 fun s7 J7 => ⟨_, _, _, J7, r6, q6⟩
      | next =>
        obtain ⟨τ, G, S6, q6⟩ := done
        exact gone S6 fun s7 J7 => ⟨_, _, J7, q6⟩
      | brk =>
        obtain ⟨τ, G, S6, q6⟩ := done
        exact gone S6 fun s7 J7 => ⟨_, _, J7, q6⟩
      | cont =>
        obtain ⟨τ, G, S6, q6⟩ := done
        exact gone S6 fun s7 J7 => ⟨_, _, J7, q6⟩
end
section
variable {X : Cx} {Wout : WX} {body : List Stmt} {h₀ : ExceptHandler} {hds : List ExceptHandler} {l : List Clause} {pos : Pos} {tb : WX → TS}
theorem ps_tryN (hs : X.stack = X.env :: X.outer) (hf : X.env.frame = some X.env.locals) (hN : X.N.Nodup) (tk : Takes X Wout)
    (hb : ∀ (W : WX) (pn : List (Addr × Obj)) (xe : Value → Shared → Prop), Takes (X.tr pn xe) W → PassesOwn (model X.prog X.w) X.A X.env xe → PSs (X.tr pn xe) body (tb W)) (hk : Cls X (h₀ :: hds) l) :
    PS X (.Try body (h₀ :: hds) [] [] pos) (fun D σ H => tb (wList X.K Wout D l) D σ H) := by
  refine ⟨fun pins s σ H D I h => ?_⟩
  have ok := I.ok
  have hfr : X.A.frames = some (X.env :: X.outer) := by rw [ok.frames, hs]
  refine wpAny_Try_except ?_
  have run := (hb (wList X.K Wout D l) (X.pn ++ pins) (fun e s₁ => wpAny (model X.prog X.w) X.A (noteFrame e X.env) (fun _ s₂ => wpAny (model X.prog X.w) X.A (setFlight e none) (fun _ s₃ =>
    wpAny (model X.prog X.w) X.A (handleBy e X.env (h₀ :: hds)) (SP X pins D) X.xe s₃) X.xe s₂) X.xe s₁) (fun u s' air => ?_) PassesOwn.looking).run [] s σ H D (I.toTry _) h
  · refine wpAny_mono run (fun f s1 done => ?_) (fun _ _ z => z)
    cases f with
    | ret u =>
      obtain ⟨v, τ, G, J, r, q⟩ := done
      exact ⟨v, τ, G, J.ofTry ok, r, q⟩
    | next =>
      obtain ⟨τ, G, J, q⟩ := done
      exact wpAny_execs_nil ⟨τ, G, J.ofTry ok, q⟩
    | brk =>
      obtain ⟨τ, G, J, q⟩ := done
      exact ⟨τ, G, J.ofTry ok, q⟩
    | cont =>
      obtain ⟨τ, G, J, q⟩ := done
      exact ⟨τ, G, J.ofTry ok, q⟩
  · obtain ⟨a, B, sI, pins', τ, G, cls, d, rfl, J', nb, up, sky, na, os, ag, w⟩ := air
    have J : Inv X pins τ G sI := J'.ofTry ok
    have sky' : Sky B (X.env :: X.outer) a (Zc cls d) X.env.locals s'.heap := by rw [← hs]; exact sky
    show wpAny (model X.prog X.w) X.A (noteFrame (.ref a) X.env) _ _ _
    exact Sky.land Zc.steady hfr hf sky' fun h3 fly up3 => clauses hs hf hN tk J nb (up.trans up3) os ag na fly hk w
end
end TrN
set_option Elab.async false
set_option linter.all false
set_option maxRecDepth 100000
set_option maxHeartbeats 4000000
/-! try with two named clauses, classmethods called at their class, cls(..) in them: rules and readings -/
namespace XR
open PySem PySem.Spec PyProof.Rows L2
/-- C.m(..), m a classmethod; E told at the caller's slots -/
def tCMethS (C : Addr) (sp : Sp) (ES : L2.St → XK) (ta : TE) (t : TA) : TE := fun σ H Q => ta σ H fun x H1 => x = .ref C ∧ t σ H1 fun vs H2 => sp (.ref C :: vs) H2 Q (ES σ)
/-- x(..), slot i holds the class at C -/
def tMakeV (i : Nat) (C : Addr) (sp : Sp) (E : XK) (t : TA) : TE := fun σ H Q => σ[i]? = some (some (.ref C)) ∧ tMake C sp [] E t σ H Q
section
variable {X : Cx} {CX : CXT} {k i : Nat} {C p g f : Addr} {mc : Value} {fd : FuncData} {ps : List Str} {sp : Sp} {ES : L2.St → XK} {E : XK} {o e : Expr} {es : List Expr} {m x : Str} {pos apos np : Pos} {ta : TE} {t : TA} {pl : Sem Bool}
theorem run_codeR {A : Around} {pins : List (Addr × Obj)} {σ : L2.St} {H : Hp} {s : Shared} {Q : VK} {us : List Value} {vs : List V} {F0 : XK} (F : FnR X.prog X.w X.K X.mg X.base CX k g sp) (hr : Room k A) (hA : A.frames = X.A.frames) (hx : PassesAt CX X σ F0)
    (I : Inv X pins σ H s) (r : Vals vs us) (h : sp vs H Q F0) : codeAny (model X.prog X.w) A (.call (.ref g) { pos := us, kw := [] }) (fun r s' => match r with
      | .ok (.ret v) => EP X pins σ Q v s'
      | .ok _ => False
      | .error e => X.xe e s') s := by
  have e0 : Env0 X.prog X.w X.K X.mg X.base A X.stack s H := by
    have e := I.env0
    exact ⟨by rw [hA]; exact e.frames, e.mod, e.bs, e.bsz, e.funs, e.frf, e.hok, e.bare⟩
  refine codeAny_mono (F A X.stack s H us vs Q F0 hr e0 r h) fun r s' hq => ?_
  match r, hq with
  | .error e, hq => exact hx pins H s e s' I hq
  | .ok (.ret u), hq => exact I.after hq
  | .ok .next, hq => exact hq
  | .ok .brk, hq => exact hq
  | .ok .cont, hq => exact hq
theorem pe_cmethS (ho : PE X o ta) (r : ClX.CRead X.K C mc) (c : ClX.CMet X.K C mc m p g) (F : FnR X.prog X.w X.K X.mg X.base CX k g sp) (hr : Room k X.A) (hx : ∀ σ, PassesAt CX X σ (ES σ)) (ha : PA X (e :: es) t)
    (hst : starEach (e :: es) X.env = (false, eval e X.env) :: starEach es X.env := by rfl) (hpl : (backTo pos (starEach es X.env)).any (·.1) = false := by rfl)
    (ht : eval (.Call (.Attribute o m apos) (e :: es) [] pos) X.env = (do
      let ov ← eval o X.env
      standAt apos.atName
      let (f, first) ← holding [ov] (getMethod ov m pl)
      callWith pos f first (backTo pos (starEach (e :: es) X.env)) (backToKw pos (keywordEach [] X.env))) := by rfl) :
    PE X (.Call (.Attribute o m apos) (e :: es) [] pos) (tCMethS C sp ES ta t) := by
  refine ⟨fun pins s σ H Q I h => ?_⟩
  refine PySem.W.methodCall_KW (pl := pl) (thn (ho.run pins s σ H _ I h) fun u s1 ⟨y, H1, I1, ry, ey, q⟩ => ?_) ht
  subst ey
  obtain rfl : u = Value.ref C := ry
  refine ClX.getmethcm_ok I1 r c fun s2 I2 => ?_
  refine ClX.callwith_cm I2 (ClX.base_none I1 (Nat.le_refl _)) c.fi (thn (ha.run pos _ s2 σ H1 _ I2 q) fun us s3 ⟨vs, H2, I3, rv, q2⟩ => ⟨⟨ClX.pin_at I3, I3.kIn⟩, ?_⟩) hst hpl
  have z := wpAny_call (PySem.W.method_call (ClX.pin_at I3) (run_codeR (us := .ref C :: us) (vs := .ref C :: vs) F hr rfl (hx σ) I3 (.cons rfl rv) q2))
  exact thn z fun _ _ w => ClX.unpinE w
theorem pe_makeV (M : Mk X.K C f) (F : FnOk X.prog X.w X.K X.mg X.base CX k f fd ps sp) (hr : Room (k + 1) X.A) (hN : X.N[i]? = some x) (hv : Vis X.env.scope x) (hb : Binds X.K fd ps []) (hx : Passes CX X E) (ha : PA X (e :: es) t)
    (hdb : (x == ("__debug__" : Str)) = false := by decide) (hcd : (x == ("__classdict__" : Str)) = false := by decide)
    (he : starEach (e :: es) X.env = (false, eval e X.env) :: starEach es X.env := by rfl) (hpl : (backTo pos (starEach es X.env)).any (·.1) = false := by rfl) : PE X (.Call (.Name x np) (e :: es) [] pos) (tMakeV i C sp E t) := by
  refine ⟨fun pins s σ H Q I h => ?_⟩
  obtain ⟨hs, h⟩ := h
  refine wpAny_Call_Name_kw (thn ((pe_var (pos := np) hN hv hdb hcd).run pins s σ H (fun v H1 => v = .ref C ∧ H1 = H) I ⟨.ref C, hs, rfl, rfl⟩) fun u s1 ⟨v, H1, I1, r1, q1⟩ => ?_)
  obtain ⟨rfl, rfl⟩ := q1
  cases r1
  refine PySem.W.callWith_K (h₀ := X.base) I.ok.mod.kin M.kp (thn (ha.run pos pins s1 σ _ _ I1 h) fun us s2 ⟨vs, H2, I2, r, q⟩ => ⟨I2.kIn, ?_⟩) he hpl
  exact run_make M F hr hb .nil hx I2 r q
end
end XR
namespace VL
open PySem PySem.Spec PyProof.Rows L2 XR
section
variable {K : PySem.W.Frag} {B : Bs} {E : L2.St → XK}
def tTry2 (K : PySem.W.Frag) (c1 : Value) (i1 : Nat) (ts1 : Addr → Value → Option Addr → TS) (c2 : Value) (i2 : Nat) (ts2 : Addr → Value → Option Addr → TS) (tb : WX → TS) : TS := fun D σ H => tb (TrN.wList K (fun _ _ _ _ => False) D [(c1, i1, ts1), (c2, i2, ts2)]) D σ H
theorem ps_try2 {X : Cx} {body : List Stmt} {h₀ : ExceptHandler} {hds : List ExceptHandler} {c1 c2 : Value} {i1 i2 : Nat} {ts1 ts2 : Addr → Value → Option Addr → TS} {pos : Pos} {tb : WX → TS} (hs : X.stack = X.env :: X.outer) (hf : X.env.frame = some X.env.locals) (hN : X.N.Nodup) (tk : Takes X (fun _ _ _ _ => False))
    (hb : ∀ (W : WX) (pn : List (Addr × Obj)) (xe : Value → Shared → Prop), Takes (X.tr pn xe) W → PassesOwn (model X.prog X.w) X.A X.env xe → PSs (X.tr pn xe) body (tb W)) (hk : TrN.Cls X (h₀ :: hds) [(c1, i1, ts1), (c2, i2, ts2)]) :
    PS X (.Try body (h₀ :: hds) [] [] pos) (tTry2 X.K c1 i1 ts1 c2 i2 ts2 tb) := TrN.ps_tryN hs hf hN tk hb hk
def vTry2 (K : PySem.W.Frag) (c1 : Value) (i1 : Nat) (w1 : VSW) (c2 : Value) (i2 : Nat) (w2 : VSW) (wb : VSW) : VSW := fun γ D => wb γ ⟨D.nx, D.rt, D.bk, D.ct, fun e γ1 => ∃ b, PySem.W.exmOne K (.ref e.1) c1 = some b ∧
  br b (w1 (γ1.noErr.set i1 (.err e.1 e.2)) (suiteE i1 D)) (PySem.W.exmOne K (.ref e.1) c2 = some true ∧ w2 (γ1.noErr.set i2 (.err e.1 e.2)) (suiteE i2 D))⟩
/-- a clause's suite runs -/
theorem suite_run {a : Addr} {D0 : Addr} {gs : List (Str × T)} {d : Option Addr} {i : Nat} {ts : TS} {ws : VSW} {D : Ends} {Dv : VEnds} {as1 : List Addr} {γ1 : Env} {σ1 : L2.St} {G1 H1 : Hp} (hs : VS K (B.hot a (.ref D0) d) E ts ws) (S1 : StR K B as1 γ1 σ1 G1 H1) (er : ErrF K G1 d gs) (q1 : ws (γ1.noErr.set i (.err D0 gs)) (suiteE i Dv))
    (knx : ∀ (γ2 : Env) (as2 : List Addr) (σ2 : L2.St) (G2 H2 : Hp), as1 <+: as2 → Same G1 G2 → StR K B as2 γ2 σ2 G2 H2 → Dv.nx γ2 → D.nx σ2 H2) (kbk : ∀ (γ2 : Env) (as2 : List Addr) (σ2 : L2.St) (G2 H2 : Hp), as1 <+: as2 → Same G1 G2 → StR K B as2 γ2 σ2 G2 H2 → Dv.bk γ2 → D.bk σ2 H2)
    (kct : ∀ (γ2 : Env) (as2 : List Addr) (σ2 : L2.St) (G2 H2 : Hp), as1 <+: as2 → Same G1 G2 → StR K B as2 γ2 σ2 G2 H2 → Dv.ct γ2 → D.ct σ2 H2)
    (krt : ∀ (σ2 : L2.St) (r : Rf) (γ2 : Env) (as2 : List Addr) (v : V) (G2 H2 : Hp), as1 <+: as2 → Same G1 G2 → StR K B as2 γ2 σ2 G2 H2 → RR K B.ex as2 G2 r v → Dv.rt r γ2 → D.rt v H2) :
    ts (TrN.endAs i D) (σ1.set i (some (.ref a))) H1 := by
  have S2 : StR K (B.hot a (.ref D0) d) as1 γ1.noErr σ1 G1 H1 := S1.reex rfl rfl rfl
  have S3 := S2.store (r := .err D0 gs) (v := .ref a) ⟨rfl, rfl, er⟩ i
  have back : ∀ {γ2 : Env} {as2 : List Addr} {σ2 : L2.St} {G2 H2 : Hp}, StR K (B.hot a (.ref D0) d) as2 γ2 σ2 G2 H2 → StR K B as2 (γ2.unset i).noErr (σ2.set i none) G2 H2 := fun {γ2 as2 σ2 G2 H2} S4 => by
    have S5 := (S4.unset i).slots (σ' := σ2.set i none) (by simp) fun j r e => by
      have e : (γ2.sl.set i none)[j]? = some (some r) := e
      by_cases hj : j = i
      · subst hj
        rcases Nat.lt_or_ge j γ2.sl.length with z | z
        · rw [List.getElem?_set_self z] at e; cases e
        · rw [List.getElem?_eq_none (by simpa using z)] at e; cases e
      · rw [List.getElem?_set_ne (Ne.symm hj)]
    exact S5.reex rfl rfl rfl
  refine hs.run (Dv := suiteE i Dv) S3 q1 ⟨fun γ2 as2 σ2 G2 H2 p2 g2 S4 q => knx _ _ _ _ _ p2 g2 (back S4) q, fun γ2 as2 σ2 G2 H2 p2 g2 S4 q => kbk _ _ _ _ _ p2 g2 (back S4) q, fun γ2 as2 σ2 G2 H2 p2 g2 S4 q => kct _ _ _ _ _ p2 g2 (back S4) q, fun σ2 r γ2 as2 v G2 H2 p2 g2 S4 rr q => ?_, fun σ2 => kxno⟩
  have S5 : StR K B as2 γ2.noErr σ2 G2 H2 := S4.reex rfl rfl rfl
  cases r with
  | err D gs => exact q.elim
  | val t => exact krt σ2 (.val t) γ2.noErr as2 v G2 H2 p2 g2 S5 rr q
  | ref n => exact krt σ2 (.ref n) γ2.noErr as2 v G2 H2 p2 g2 S5 rr q
instance {c1 c2 : Value} {i1 i2 : Nat} {ts1 ts2 : Addr → Value → Option Addr → TS} {tb : WX → TS} {wb w1 w2 : VSW} [hb : ∀ W : WX, VS K B (WE W) (tb W) wb] [h1 : ∀ (a : Addr) (cls : Value) (d : Option Addr), VS K (B.hot a cls d) E (ts1 a cls d) w1] [h2 : ∀ (a : Addr) (cls : Value) (d : Option Addr), VS K (B.hot a cls d) E (ts2 a cls d) w2] :
    VS K B E (tTry2 K c1 i1 ts1 c2 i2 ts2 tb) (vTry2 K c1 i1 w1 c2 i2 w2 wb) where
  run := fun {as γ σ G H D Dv} S h k => by
    refine (hb _).run S h ⟨k.nx, k.bk, k.ct, k.rt, fun σ1 e γ1 as1 d G1 H1 p1 g1 S1 er q1 => ?_⟩
    obtain ⟨b, em, q1⟩ := q1
    refine ⟨b, em, fun eb a ha => ?_, fun eb => ?_⟩
    · subst eb
      exact suite_run (h1 a (.ref e.1) d) S1 er q1 (fun γ2 as2 σ2 G2 H2 p2 g2 => k.nx γ2 as2 σ2 G2 H2 (p1.trans p2) (g1.trans g2)) (fun γ2 as2 σ2 G2 H2 p2 g2 => k.bk γ2 as2 σ2 G2 H2 (p1.trans p2) (g1.trans g2)) (fun γ2 as2 σ2 G2 H2 p2 g2 => k.ct γ2 as2 σ2 G2 H2 (p1.trans p2) (g1.trans g2)) (fun σ2 r γ2 as2 v G2 H2 p2 g2 => k.rt σ2 r γ2 as2 v G2 H2 (p1.trans p2) (g1.trans g2))
    · subst eb
      refine ⟨true, q1.1, fun _ a ha => ?_, fun z => by cases z⟩
      exact suite_run (h2 a (.ref e.1) d) S1 er q1.2 (fun γ2 as2 σ2 G2 H2 p2 g2 => k.nx γ2 as2 σ2 G2 H2 (p1.trans p2) (g1.trans g2)) (fun γ2 as2 σ2 G2 H2 p2 g2 => k.bk γ2 as2 σ2 G2 H2 (p1.trans p2) (g1.trans g2)) (fun γ2 as2 σ2 G2 H2 p2 g2 => k.ct γ2 as2 σ2 G2 H2 (p1.trans p2) (g1.trans g2)) (fun σ2 r γ2 as2 v G2 H2 p2 g2 => k.rt σ2 r γ2 as2 v G2 H2 (p1.trans p2) (g1.trans g2))
/-! ### C.m(..) of a classmethod, cls(..) -/
section
variable {sp : Sp} {wf : List Rf → Env → RQ → XQ → Prop} [hf : VF K sp wf] {C : Addr} {to : TE} {t : TA} {wo : VW} {wa : Env → (List Rf → Env → Prop) → XQ → Prop}
def vCMeth0 (C : Addr) (wf : List Rf → Env → RQ → XQ → Prop) (wo : VW) (wa : Env → (List Rf → Env → Prop) → XQ → Prop) : VW := fun γ Q X => wo γ (fun r γ1 => r = .val (.cls C) ∧ wa γ1 (fun rs γ2 => wf (.val (.cls C) :: rs) γ2 Q noX) X) X
def vCMeth (C : Addr) (wf : List Rf → Env → RQ → XQ → Prop) (wo : VW) (wa : Env → (List Rf → Env → Prop) → XQ → Prop) : VW := fun γ Q X => wo γ (fun r γ1 => r = .val (.cls C) ∧ wa γ1 (fun rs γ2 => wf (.val (.cls C) :: rs) γ2 Q X) X) X
instance [ho : VE K B E to wo] [ha : VA K B E t wa] : VE K B E (tCMethS C sp (fun _ => E0) to t) (vCMeth0 C wf wo wa) where
  run := fun {as γ σ G H Q Qv Xv} S h k kx => by
    refine ho.run S h (fun r γ1 as1 v G1 H1 p1 g1 S1 rr1 q1 => ?_) kx
    obtain ⟨rfl, q1⟩ := q1
    have rr1 : Rp K G1 v (.cls C) := rr1
    cases rr1
    refine ⟨rfl, ha.run S1 q1 (fun rs γ2 as2 vs G2 H2 p2 g2 S2 rr2 q2 => ?_) (kx.mono p1 g1)⟩
    exact hf.run S2 (.cons (show RR K B.ex as2 G2 (.val (.cls C)) (.ref C) from Rp.cls C) rr2) q2 ((k.mono p1 g1).mono p2 g2) kxno
instance [ho : VE K B E to wo] [ha : VA K B E t wa] : VE K B E (tCMethS C sp E to t) (vCMeth C wf wo wa) where
  run := fun {as γ σ G H Q Qv Xv} S h k kx => by
    refine ho.run S h (fun r γ1 as1 v G1 H1 p1 g1 S1 rr1 q1 => ?_) kx
    obtain ⟨rfl, q1⟩ := q1
    have rr1 : Rp K G1 v (.cls C) := rr1
    cases rr1
    refine ⟨rfl, ha.run S1 q1 (fun rs γ2 as2 vs G2 H2 p2 g2 S2 rr2 q2 => ?_) (kx.mono p1 g1)⟩
    exact hf.run S2 (.cons (show RR K B.ex as2 G2 (.val (.cls C)) (.ref C) from Rp.cls C) rr2) q2 ((k.mono p1 g1).mono p2 g2) ((kx.mono p1 g1).mono p2 g2)
def vMakeV (i : Nat) (C : Addr) (wf : List Rf → Env → RQ → XQ → Prop) (wa : Env → (List Rf → Env → Prop) → XQ → Prop) : VW := fun γ Q X => γ.sl[i]? = some (some (.val (.cls C))) ∧ vMake C wf wa γ Q X
instance {E1 : XK} {i : Nat} [ha : VA K B (fun _ => E1) t wa] : VE K B (fun _ => E1) (tMakeV i C sp E1 t) (vMakeV i C wf wa) where
  run := fun {as γ σ G H Q Qv Xv} S h k kx => by
    obtain ⟨e, h⟩ := h
    obtain ⟨v, e2, rp⟩ := S.sl i _ e
    have rp : Rp K G v (.cls C) := rp
    cases rp
    exact ⟨e2, VE.run (K := K) (B := B) (E := fun _ => E1) (t := tMake C sp [] E1 t) (w := vMake C wf wa) S h k kx⟩
end
end
end VL
set_option Elab.async false
set_option linter.all false
set_option maxRecDepth 100000
set_option maxHeartbeats 4000000
/-! sorted(x) of ints, of pairs of ints: over values -/
namespace VL
open PySem PySem.Spec PyProof.Rows L2 XR
/-- in order -/
def srtI (ns : List Int) : List Int := ns.mergeSort (fun a b => decide (a ≤ b))
theorem srtI_perm (ns : List Int) : (srtI ns).Perm ns := List.mergeSort_perm _ _
theorem srtI_ord (ns : List Int) : (srtI ns).Pairwise (· ≤ ·) := by
  have := List.pairwise_mergeSort (le := fun a b : Int => decide (a ≤ b)) (fun a b c h1 h2 => by simp only [decide_eq_true_eq] at *; omega) (fun a b => by simp only [Bool.or_eq_true, decide_eq_true_eq]; omega) ns
  exact this.imp fun h => of_decide_eq_true h
theorem ord_uniq {α : Type} {r : α → α → Prop} (anti : ∀ a b, r a b → r b a → a = b) : ∀ {l m : List α}, l.Perm m → l.Pairwise r → m.Pairwise r → l = m
  | [], [], _, _, _ => rfl
  | [], y :: m, p, _, _ => by have := p.length_eq; simp at this
  | x :: l, [], p, _, _ => by have := p.length_eq; simp at this
  | x :: l, y :: m, p, hl, hm => by
    obtain ⟨a1, a2⟩ := List.pairwise_cons.mp hl
    obtain ⟨b1, b2⟩ := List.pairwise_cons.mp hm
    have e : x = y := by
      have h1 : x ∈ y :: m := p.mem_iff.mp List.mem_cons_self
      have h2 : y ∈ x :: l := p.mem_iff.mpr List.mem_cons_self
      rcases List.mem_cons.mp h1 with h1 | h1
      · exact h1
      · rcases List.mem_cons.mp h2 with h2 | h2
        · exact h2.symm
        · exact anti _ _ (a1 y h2) (b1 x h1)
    subst e
    rw [ord_uniq anti p.cons_inv a2 b2]
theorem srtI_uniq {ms ns : List Int} (p : ms.Perm ns) (o : ms.Pairwise (· ≤ ·)) : ms = srtI ns := ord_uniq (fun a b h1 h2 => Int.le_antisymm h1 h2) (p.trans (srtI_perm ns).symm) o (srtI_ord ns)
/-- pairs: by the first, then by the second -/
def leP (p q : Int × Int) : Prop := p.1 < q.1 ∨ (p.1 = q.1 ∧ p.2 ≤ q.2)
instance (p q : Int × Int) : Decidable (leP p q) := inferInstanceAs (Decidable (_ ∨ _))
def srtP (ps : List (Int × Int)) : List (Int × Int) := ps.mergeSort (fun a b => decide (leP a b))
theorem srtP_perm (ps : List (Int × Int)) : (srtP ps).Perm ps := List.mergeSort_perm _ _
theorem srtP_ord (ps : List (Int × Int)) : (srtP ps).Pairwise leP := by
  have := List.pairwise_mergeSort (le := fun a b : Int × Int => decide (leP a b)) (fun a b c h1 h2 => by simp only [decide_eq_true_eq] at *; unfold leP at *; omega) (fun a b => by simp only [Bool.or_eq_true, decide_eq_true_eq]; unfold leP; omega) ps
  exact this.imp fun h => of_decide_eq_true h
theorem leP_anti (a b : Int × Int) (h1 : leP a b) (h2 : leP b a) : a = b := by
  unfold leP at *
  exact Prod.ext (by omega) (by omega)
theorem srtP_uniq {ms ps : List (Int × Int)} (p : ms.Perm ps) (o : ms.Pairwise leP) : ms = srtP ps := ord_uniq leP_anti (p.trans (srtP_perm ps).symm) o (srtP_ord ps)
/-- sorted(xs), a list of pairs of ints, told or constants -/
def rSortedPT (K : PySem.W.Frag) : List V → Hp → VK → Prop := fun vs H Q => ∃ (a : Addr) (zs : List (V × (Int × Int))), vs = [V.ref a] ∧ SqL K H a (zs.map Prod.fst) ∧ (∀ z ∈ zs, ∃ t, z.1 = V.ref t ∧ SqT K H t [.int z.2.1, .int z.2.2]) ∧
  ∀ (ys : List (V × (Int × Int))) q, ys.Perm zs → (ys.map Prod.snd).Pairwise leP → H q = none → Q (.ref q) (upd H q (.lst (ys.map Prod.fst)))
section
variable {X : Cx}
open Classical in
theorem cr_sortedPT : CallR X (.builtin "sorted") (rSortedPT X.K) := by
  intro pins s σ H vs us Q I r h
  obtain ⟨a, zs, rfl, hs, hx, q⟩ := h
  obtain ⟨its, rv, hl, hz⟩ := I.list hs
  obtain ⟨u, rfl, ru⟩ := vals1 r
  obtain rfl : u = Value.ref a := ru
  let k : V → Int × Int := fun x => match x with
    | .ref t => if h : ∃ p : Int × Int, SqT X.K H t [.int p.1, .int p.2] then choose h else (0, 0)
    | _ => (0, 0)
  have kz : ∀ z ∈ zs, k z.1 = z.2 := fun z hm => by
    obtain ⟨t, e, ht⟩ := hx z hm
    have h : ∃ p : Int × Int, SqT X.K H t [.int p.1, .int p.2] := ⟨z.2, ht⟩
    have e1 : k z.1 = choose h := by rw [e]; exact dif_pos h
    have e2 := I.tuple_inj (choose_spec h) ht
    injection e2 with e3 e4
    injection e4 with e4 _
    injection e3 with e3
    injection e4 with e4
    rw [e1]
    exact Prod.ext e3 e4
  obtain ⟨e1, e2⟩ := refs_back rv fun x m => by
    obtain ⟨z, hz, rfl⟩ := List.mem_map.mp m
    obtain ⟨t, e, _⟩ := hx z hz
    exact ⟨t, e⟩
  refine SrtO.sorted_pairsO (k := fun u => k (backV u)) hl.isList (by rw [← rv.length]; exact hz) (fun v hv => ?_) fun h' d out h1 h2 kp hd hn => ?_
  · obtain ⟨t, rfl⟩ := e2 v hv
    have hm : V.ref t ∈ zs.map Prod.fst := by rw [e1]; exact List.mem_map.mpr ⟨_, hv, rfl⟩
    obtain ⟨z, hz, ez⟩ := List.mem_map.mp hm
    obtain ⟨t', e, ht⟩ := hx z hz
    have et : t' = t := by rw [e] at ez; injection ez
    subst et
    obtain ⟨its2, r2, ⟨o, ho, hc, n, hd⟩, _⟩ := I.tuple ht
    obtain ⟨u1, u2, rfl, ri, rj⟩ := vals2 r2
    obtain ⟨t1, rfl⟩ := ri
    obtain ⟨t2, rfl⟩ := rj
    have ek : k (backV (.ref t')) = z.2 := by rw [← kz z hz, e]; rfl
    rw [ek]
    exact ⟨t', o, t1, t2, n, rfl, ho, hc, hd⟩
  · have h3 : ∀ u ∈ out, ∃ a, u = Value.ref a := fun u hu => e2 u (h2.perm.mem_iff.mp hu)
    obtain ⟨n, hn⟩ := hn
    have hb : SrtO.Stb (ltP k) (out.map backV) (zs.map Prod.fst) := by
      rw [e1]
      exact SrtO.Stb.map (ltP_swo k) backV h2
    have hperm := hb.perm
    have ez : (zs.map Prod.fst).map (fun x => (x, k x)) = zs := by
      rw [List.map_map]
      conv => rhs; rw [← List.map_id zs]
      exact List.map_congr_left fun z hz => Prod.ext rfl (kz z hz)
    have ey : ((out.map backV).map fun x => (x, k x)).map Prod.fst = out.map backV := by
      rw [List.map_map]
      exact List.map_id _
    have q := q ((out.map backV).map fun x => (x, k x)) d (by rw [← ez]; exact hperm.map _) (by
      rw [List.map_map, List.map_map]
      refine List.pairwise_map.mpr (List.Pairwise.imp (fun {x y} hxy => ?_) h1)
      have := SrtO.lexB_no.mp hxy
      show leP (k (backV x)) (k (backV y))
      unfold leP
      omega) (I.hok.fresh hd)
    rw [ey] at q
    refine ⟨.ref d, upd H d (.lst (out.map backV)), I.laid (t' := s.toks) kp hd ⟨?_, out, n, vals_back h3, hn⟩, rfl, q⟩
    rw [hb.len]
    exact hz
variable {K : PySem.W.Frag}
theorem call_sortedI (e : X.K = K) : CallR X (.builtin "sorted") (rSortedI K) := e ▸ cr_sortedI
theorem call_sortedP (e : X.K = K) : CallR X (.builtin "sorted") (rSortedPT K) := e ▸ cr_sortedPT
end
section
variable {K : PySem.W.Frag} {B : Bs} {E : L2.St → XK}
def tIP (p : Int × Int) : T := .tup [.int p.1, .int p.2]
def vSortedI : List Rf → VW := look1 fun t Q γ => match t with
  | .lst ts => ∃ ns : List Int, ts = ns.map T.int ∧ γ.new (.lst ((srtI ns).map T.int)) Q
  | _ => False
def vSortedP : List Rf → VW := look1 fun t Q γ => match t with
  | .lst ts => ∃ ps : List (Int × Int), ts = ps.map tIP ∧ γ.new (.lst ((srtP ps).map tIP)) Q
  | _ => False
theorem ints_rp {G : Hp} : ∀ ns : List Int, RpAll K G (ns.map V.int) (ns.map T.int)
  | [] => .nil
  | n :: ns => .cons (.int n) (ints_rp ns)
instance : VC K B E (rSortedI K) vSortedI where
  run := fun {as γ σ G H vs rs Q Qv Xv} S r1 h k _ => by
    obtain ⟨v, t, rfl, z, h⟩ := look1_ok S r1 h
    split at h
    · obtain ⟨ns, rfl, h⟩ := h
      obtain ⟨a, acc, rfl, e, rp⟩ := lst_any S z
      refine ⟨a, ns, rfl, by rw [← ints_inv rp]; exact SqL.of e, fun ms p hp ho hn => ?_⟩
      rw [srtI_uniq hp ho]
      exact knew k S (ints_rp _) h hn
    · exact h.elim
theorem pairs_inv {G : Hp} : ∀ {vs : List V} {ps : List (Int × Int)}, RpAll K G vs (ps.map tIP) → ∃ zs : List (V × (Int × Int)), vs = zs.map Prod.fst ∧ ps = zs.map Prod.snd ∧ ∀ z ∈ zs, Rp K G z.1 (tIP z.2)
  | _, [], .nil => ⟨[], rfl, rfl, fun z hz => by cases hz⟩
  | _, p :: ps, .cons a r => by
    obtain ⟨zs, rfl, rfl, h⟩ := pairs_inv r
    refine ⟨(_, p) :: zs, rfl, rfl, fun z hz => ?_⟩
    rcases List.mem_cons.mp hz with rfl | hz
    · exact a
    · exact h z hz
theorem pairs_all {G : Hp} : ∀ {zs : List (V × (Int × Int))}, (∀ z ∈ zs, Rp K G z.1 (tIP z.2)) → RpAll K G (zs.map Prod.fst) ((zs.map Prod.snd).map tIP)
  | [], _ => .nil
  | z :: zs, h => .cons (h z List.mem_cons_self) (pairs_all fun y hy => h y (List.mem_cons_of_mem _ hy))
instance : VC K B E (rSortedPT K) vSortedP where
  run := fun {as γ σ G H vs rs Q Qv Xv} S r1 h k _ => by
    obtain ⟨v, t, rfl, z, h⟩ := look1_ok S r1 h
    split at h
    · obtain ⟨ps, rfl, h⟩ := h
      obtain ⟨a, acc, rfl, e, rp⟩ := lst_any S z
      obtain ⟨zs, rfl, rfl, hz⟩ := pairs_inv rp
      refine ⟨a, zs, rfl, SqL.of e, fun z hm => ?_, fun ys p hp ho hn => ?_⟩
      · have r := hz z hm
        obtain ⟨v, p⟩ := z
        have r : Rp K G v (.tup [.int p.1, .int p.2]) := r
        cases r with | tup s1 s2 =>
        cases s2 with | cons a1 s2 =>
        cases s2 with | cons a2 s2 =>
        cases s2
        cases a1
        cases a2
        exact ⟨_, rfl, SqT.same s1.t S.vw⟩
      · have e2 : ys.map Prod.snd = srtP (zs.map Prod.snd) := srtP_uniq (hp.map _) ho
        rw [← e2] at h
        exact knew k S (pairs_all fun y hy => hz y (hp.mem_iff.mp hy)) h hn
    · exact h.elim
end
end VL
set_option Elab.async false
set_option linter.all false
set_option maxRecDepth 100000
set_option maxHeartbeats 4000000
/-! dicts: {}, d[y], y in d, d[y] = v; keys: ints, texts, or tuples that begin with an int -/
namespace VL
open PySem PySem.Spec PyProof.Rows L2 XR
/-! ### no tuple of the module begins with an int -/
def noIntTup (o : Obj) : Bool := match o.cls with
  | .type n => if n = "tuple" then (match o.data with
    | .seq its _ => (match its.toList with
      | .int _ _ :: _ => false
      | _ => true)
    | _ => true) else true
  | _ => true
def NoInt (K : PySem.W.Frag) : Prop := (K.all fun p => noIntTup p.2) = true
theorem lookup_mem : ∀ {K : PySem.W.Frag} {a : Addr} {o : Obj}, K.lookup a = some o → ∃ b, (b, o) ∈ K
  | [], a, o, h => by cases h
  | (b, x) :: K, a, o, h => by
    rw [List.lookup_cons] at h
    split at h
    · cases h; exact ⟨b, List.mem_cons_self⟩
    · obtain ⟨c, hc⟩ := lookup_mem h
      exact ⟨c, List.mem_cons_of_mem _ hc⟩
theorem SqX.exact {K : PySem.W.Frag} {G : Hp} {a : Addr} {i : Int} {xs : List V} (n : NoInt K) (h : SqX K G a (.int i :: xs)) : G a = some (.tup (.int i :: xs)) := by
  rcases h with h | ⟨o, its, m, e, c, d, _, r⟩
  · exact h
  · obtain ⟨b, hb⟩ := lookup_mem e
    have q : noIntTup o = true := List.all_eq_true.mp n _ hb
    exfalso
    unfold noIntTup at q
    rw [c] at q
    simp only [if_true] at q
    rw [d] at q
    dsimp only at q
    generalize its.toList = l at q r
    cases r with
    | cons r1 _ =>
      obtain ⟨t, rfl⟩ := (show ∃ t, _ = Value.int i t from r1)
      cases q
/-! ### keys -/
def keyT : T → Option Key
  | .int i => some (.inl i)
  | .str x => some (.inr x)
  | _ => none
def keysT : List T → Option (List Key)
  | [] => some []
  | t :: ts => match keyT t, keysT ts with
    | some k, some ks => some (k :: ks)
    | _, _ => none
/-- a tuple that begins with an int -/
def keyI : T → Option (List Key)
  | .tup (.int i :: ts) => keysT (.int i :: ts)
  | _ => none
def valA {κ α : Type} [DecidableEq κ] (kvs : List (κ × α)) (k : κ) : Option α := (kvs.find? fun kv => decide (kv.1 = k)).map (·.2)
def putA {κ α : Type} [DecidableEq κ] (kvs : List (κ × α)) (k : κ) (v : α) : List (κ × α) :=
  if (kvs.any fun kv => decide (kv.1 = k)) = true then kvs.map (fun kv => if kv.1 = k then (kv.1, v) else kv) else kvs ++ [(k, v)]
section
variable {K : PySem.W.Frag} {G H : Hp} {v : V} {t : T}
theorem keyT_ok {k : Key} (r : Rp K G v t) (e : keyT t = some k) : v = kV k := by
  cases r with
  | int i => cases e; rfl
  | str s _ => cases e; rfl
  | _ => cases e
theorem keysT_ok : ∀ {vs : List V} {ts : List T} {ks : List Key}, RpAll K G vs ts → keysT ts = some ks → vs = ks.map kV
  | _, _, _, .nil, e => by cases e; rfl
  | _, _, _, .cons a b, e => by
    unfold keysT at e
    split at e
    · rename_i k ks e1 e2
      cases e
      rw [keyT_ok a e1, keysT_ok b e2]
      rfl
    · cases e
theorem keyI_ok {ks : List Key} (n : NoInt K) (r : Rp K G v t) (e : keyI t = some ks) : ∃ b, v = .ref b ∧ G b = some (.tup (ks.map kV)) := by
  unfold keyI at e
  split at e
  · cases r with | tup s a =>
    have h := keysT_ok a e
    cases a with | cons a1 a2 =>
    cases a1
    rw [← h]
    exact ⟨_, rfl, s.exact n⟩
  · cases e
section
variable {κ : Type} [DecidableEq κ]
theorem RpF.val : ∀ {kvs : List (κ × V)} {ks : List (κ × T)} (_ : RpF K G kvs ks) (k : κ), (valV kvs k = none ∧ valA ks k = none) ∨ ∃ v t, valV kvs k = some v ∧ valA ks k = some t ∧ Rp K G v t
  | [], [], _, k => .inl ⟨rfl, rfl⟩
  | [], _ :: _, h, k => by have := h.1; cases this
  | _ :: _, [], h, k => by have := h.1; cases this
  | (a, v) :: kvs, (b, t) :: ks, h, k => by
    have h1 := List.cons.inj h.1
    have e : a = b := h1.1
    subst e
    have h2 := h.2
    cases h2 with | cons r rs =>
    by_cases q : a = k
    · refine .inr ⟨v, t, valV_pos (p := (a, v)) q, ?_, r⟩
      simp [valA, List.find?_cons, q]
    · have e1 : valV ((a, v) :: kvs) k = valV kvs k := valV_neg (p := (a, v)) q
      have e2 : valA ((a, t) :: ks) k = valA ks k := by simp [valA, List.find?_cons, q]
      rw [e1, e2]
      exact RpF.val ⟨h1.2, rs⟩ k
theorem RpF.any : ∀ {kvs : List (κ × V)} {ks : List (κ × T)} (_ : RpF K G kvs ks) (k : κ), (kvs.any fun kv => decide (kv.1 = k)) = (ks.any fun kv => decide (kv.1 = k))
  | [], [], _, k => rfl
  | [], _ :: _, h, k => by have := h.1; cases this
  | _ :: _, [], h, k => by have := h.1; cases this
  | (a, v) :: kvs, (b, t) :: ks, h, k => by
    have h1 := List.cons.inj h.1
    have e : a = b := h1.1
    subst e
    have h2 := h.2
    cases h2 with | cons r rs =>
    rw [List.any_cons, List.any_cons, RpF.any ⟨h1.2, rs⟩ k]
theorem RpF.repl {k : κ} (r : Rp K G v t) : ∀ {kvs : List (κ × V)} {ks : List (κ × T)} (_ : RpF K G kvs ks), RpF K G (kvs.map fun kv => if kv.1 = k then (kv.1, v) else kv) (ks.map fun kv => if kv.1 = k then (kv.1, t) else kv)
  | [], [], _ => ⟨rfl, .nil⟩
  | [], _ :: _, h => by have := h.1; cases this
  | _ :: _, [], h => by have := h.1; cases this
  | (a, x) :: kvs, (b, y) :: ks, h => by
    have h1 := List.cons.inj h.1
    have e : a = b := h1.1
    subst e
    have h2 := h.2
    cases h2 with | cons q qs =>
    obtain ⟨z1, z2⟩ := RpF.repl r (kvs := kvs) (ks := ks) ⟨h1.2, qs⟩
    rw [List.map_cons, List.map_cons]
    by_cases e : a = k
    · rw [if_pos e, if_pos e]
      exact ⟨by rw [List.map_cons, List.map_cons, z1], .cons r z2⟩
    · rw [if_neg e, if_neg e]
      exact ⟨by rw [List.map_cons, List.map_cons, z1], .cons q z2⟩
theorem RpF.put {kvs : List (κ × V)} {ks : List (κ × T)} (h : RpF K G kvs ks) (k : κ) (r : Rp K G v t) : RpF K G (putK kvs k v) (putA ks k t) := by
  unfold putK putA
  rw [h.any k]
  split
  · exact h.repl r
  · refine ⟨by rw [List.map_append, List.map_append, h.1]; rfl, ?_⟩
    rw [List.map_append, List.map_append]
    exact h.2.snoc r
theorem RpF.len {kvs : List (κ × V)} {ks : List (κ × T)} (h : RpF K G kvs ks) : kvs.length = ks.length := by
  have := congrArg List.length h.1
  simpa using this
end
end
theorem valA_some {κ α : Type} [DecidableEq κ] (k : κ) : ∀ ks : List (κ × α), (valA ks k).isSome = ks.any fun kv => decide (kv.1 = k)
  | [] => rfl
  | p :: r => by
    rw [List.any_cons, ← valA_some k r]
    by_cases e : p.1 = k
    · simp [valA, List.find?_cons, e]
    · simp [valA, List.find?_cons, e]
theorem putA_any {κ α : Type} [DecidableEq κ] (ks : List (κ × α)) (k j : κ) (v : α) : ((putA ks k v).any fun kv => decide (kv.1 = j)) = (decide (k = j) || ks.any fun kv => decide (kv.1 = j)) := by
  unfold putA
  by_cases h : (ks.any fun kv => decide (kv.1 = k)) = true
  · rw [if_pos h, List.any_map]
    have e : (fun kv : κ × α => decide (kv.1 = j)) ∘ (fun kv => if kv.1 = k then (kv.1, v) else kv) = fun kv => decide (kv.1 = j) := by
      funext kv
      show decide ((if kv.1 = k then (kv.1, v) else kv).1 = j) = _
      split <;> rfl
    rw [e]
    by_cases q : k = j
    · subst q
      rw [h, Bool.or_true]
    · rw [decide_eq_false q, Bool.false_or]
  · rw [if_neg h, List.any_append, Bool.or_comm]
    congr 1
    simp
theorem putA_len {κ α : Type} [DecidableEq κ] (ks : List (κ × α)) (k : κ) (v : α) : (putA ks k v).length ≤ ks.length + 1 := by
  unfold putA
  split
  · rw [List.length_map]; omega
  · rw [List.length_append]; exact Nat.le_refl _
/-- a table of keys seen -/
def seenA {κ α β : Type} [DecidableEq κ] (f : β → κ) (v : α) (xs : List β) : List (κ × α) := xs.foldl (fun ks x => putA ks (f x) v) []
theorem seenA_snoc {κ α β : Type} [DecidableEq κ] (f : β → κ) (v : α) (xs : List β) (x : β) : seenA f v (xs ++ [x]) = putA (seenA f v xs) (f x) v := by unfold seenA; rw [List.foldl_append]; rfl
theorem seenA_len {κ α β : Type} [DecidableEq κ] (f : β → κ) (v : α) (xs : List β) : (seenA f v xs).length ≤ xs.length := by
  suffices h : ∀ (xs : List β) (ks : List (κ × α)), (xs.foldl (fun ks x => putA ks (f x) v) ks).length ≤ ks.length + xs.length by have := h xs []; simpa [seenA] using this
  intro xs
  induction xs with
  | nil => intro ks; exact Nat.le_refl _
  | cons x xs ih =>
    intro ks
    have h1 := ih (putA ks (f x) v)
    have h2 := putA_len ks (f x) v
    rw [List.foldl_cons, List.length_cons]
    omega
theorem seenA_some {κ α β : Type} [DecidableEq κ] [DecidableEq β] (f : β → κ) (inj : ∀ a b, f a = f b → a = b) (v : α) (xs : List β) (x : β) : (valA (seenA f v xs) (f x)).isSome = decide (x ∈ xs) := by
  rw [valA_some]
  suffices h : ∀ (xs : List β) (ks : List (κ × α)), ((xs.foldl (fun ks x => putA ks (f x) v) ks).any fun kv => decide (kv.1 = f x)) = (decide (x ∈ xs) || ks.any fun kv => decide (kv.1 = f x)) by
    have := h xs []
    rw [List.any_nil, Bool.or_false] at this
    exact this
  intro xs
  induction xs with
  | nil => intro ks; simp
  | cons y xs ih =>
    intro ks
    rw [List.foldl_cons, ih, putA_any, Bool.eq_iff_iff]
    simp only [Bool.or_eq_true, decide_eq_true_eq, List.mem_cons]
    constructor
    · rintro (h | h | h)
      · exact .inl (.inr h)
      · exact .inl (.inl (inj _ _ h).symm)
      · exact .inr h
    · rintro ((h | h) | h)
      · exact .inr (.inl (by rw [h]))
      · exact .inl h
      · exact .inr (.inr h)
/-- what the dict holds there -/
def dGetQ (K : PySem.W.Frag) (d y : T) (Q : Option T → Prop) : Prop := match d with
  | .dk ks => isS (keyT y) fun k => Q (valA ks k)
  | .dt ks => NoInt K ∧ isS (keyI y) fun k => Q (valA ks k)
  | _ => False
theorem isS_ok {α : Type} {o : Option α} {Q : α → Prop} (h : isS o Q) : ∃ x, o = some x ∧ Q x := by
  cases o with
  | none => exact h.elim
  | some x => exact ⟨x, rfl, h⟩
theorem dGetQ_ok {K : PySem.W.Frag} {B : Bs} {as : List Addr} {γ : Env} {σ : L2.St} {G H : Hp} {x v : V} {d y : T} {Q : Option T → Prop} (S : StR K B as γ σ G H) (r : Rp K G x d ∨ ∃ a, x = .ref a ∧ MutR K G H a d) (ry : Rp K H v y) (h : dGetQ K d y Q) :
    ∃ a o o', x = .ref a ∧ DGet H a v o ∧ Q o' ∧ ((o = none ∧ o' = none) ∨ ∃ v t, o = some v ∧ o' = some t ∧ Rp K G v t) := by
  unfold dGetQ at h
  split at h
  · obtain ⟨k, e, h⟩ := isS_ok h
    rw [keyT_ok ry e]
    rcases r with r | ⟨a, rfl, kvs, g, f⟩
    · cases r with | dk g e1 e2 => exact ⟨_, _, _, rfl, DGet.k (S.vw _ _ g), h, RpF.val ⟨e1, e2⟩ k⟩
    · exact ⟨_, _, _, rfl, DGet.k g, h, f.val k⟩
  · obtain ⟨n, h⟩ := h
    obtain ⟨k, e, h⟩ := isS_ok h
    obtain ⟨b, rfl, hb⟩ := keyI_ok n ry e
    rcases r with r | ⟨a, rfl, kvs, g, f⟩
    · cases r with | dt g e1 e2 => exact ⟨_, _, _, rfl, DGet.t (S.vw _ _ g) hb, h, RpF.val ⟨e1, e2⟩ k⟩
    · exact ⟨_, _, _, rfl, DGet.t g hb, h, f.val k⟩
  · exact h.elim
def setD (K : PySem.W.Frag) (r : Rf) (y t : T) (γ : Env) (Q : Env → Prop) : Prop := match r with
  | .ref k => match nth γ.mem k with
    | some (.mu (.dk ks)) => isS (keyT y) fun kk => ks.length < 100000 ∧ Q (γ.put k (.mu (.dk (putA ks kk t))))
    | some (.mu (.dt ks)) => NoInt K ∧ isS (keyI y) fun kk => ks.length < 100000 ∧ Q (γ.put k (.mu (.dt (putA ks kk t))))
    | _ => False
  | _ => False
section
variable {K : PySem.W.Frag} {B : Bs} {E : L2.St → XK}
def tDGetK (K : PySem.W.Frag) (td ty : TE) : TE := tDGet td ty
def tDInK (K : PySem.W.Frag) (ty td : TE) : TE := tDIn ty td
def tDNotInK (K : PySem.W.Frag) (ty td : TE) : TE := tDNotIn ty td
def sDPutK (K : PySem.W.Frag) (td ty tv : TE) : TS := sDPut td ty tv
def vDGet (K : PySem.W.Frag) (wd wy : VW) : VW := fun γ Q X => wd γ (fun rd γ1 => wy γ1 (fun ry γ2 => peek rd γ2 fun d => peek ry γ2 fun y => dGetQ K d y fun o => isS o fun t => Q (.val t) γ2) X) X
def vDIn (neg : Bool) (K : PySem.W.Frag) (wy wd : VW) : VW := fun γ Q X => wy γ (fun ry γ1 => wd γ1 (fun rd γ2 => peek rd γ2 fun d => peek ry γ2 fun y => dGetQ K d y fun o => Q (.val (.bl (nb neg o.isSome))) γ2) X) X
def vDPut (K : PySem.W.Frag) (wd wy wv : VW) : VSW := fun γ D => wv γ (fun rv γ1 => wd γ1 (fun rd γ2 => wy γ2 (fun ry γ3 => toT rv γ3 fun t γ4 => peek ry γ4 fun y => setD K rd y t γ4 D.nx) D.ex) D.ex) D.ex
instance {td ty : TE} {wd wy : VW} [hd : VE K B E td wd] [hy : VE K B E ty wy] : VE K B E (tDGetK K td ty) (vDGet K wd wy) where
  run := fun {as γ σ G H Q Qv Xv} S h k kx => by
    refine hd.run S h (fun r1 γ1 as1 v1 G1 H1 p1 g1 S1 rr1 q1 => ?_) kx
    refine hy.run S1 q1 (fun r2 γ2 as2 v2 G2 H2 p2 g2 S2 rr2 q2 => ?_) (kx.mono p1 g1)
    obtain ⟨d, q2, z1⟩ := peek_ok S2 (RR.mono rr1 p2 g2) q2
    obtain ⟨y, q2, z2⟩ := peek_rp S2 rr2 q2
    obtain ⟨a, o, o', rfl, dg, q3, ov⟩ := dGetQ_ok S2 z1 z2 q2
    rcases ov with ⟨_, rfl⟩ | ⟨v, t, rfl, rfl, rv⟩
    · exact q3.elim
    · exact ⟨a, v, rfl, dg, kval ((k.mono p1 g1).mono p2 g2) S2 rv q3⟩
instance {td ty : TE} {wd wy : VW} [hd : VE K B E td wd] [hy : VE K B E ty wy] : VE K B E (tDInK K ty td) (vDIn false K wy wd) where
  run := fun {as γ σ G H Q Qv Xv} S h k kx => by
    refine hy.run S h (fun r1 γ1 as1 v1 G1 H1 p1 g1 S1 rr1 q1 => ?_) kx
    refine hd.run S1 q1 (fun r2 γ2 as2 v2 G2 H2 p2 g2 S2 rr2 q2 => ?_) (kx.mono p1 g1)
    obtain ⟨d, q2, z1⟩ := peek_ok S2 rr2 q2
    obtain ⟨y, q2, z2⟩ := peek_rp S2 (RR.mono rr1 p2 g2) q2
    obtain ⟨a, o, o', rfl, dg, q3, ov⟩ := dGetQ_ok S2 z1 z2 q2
    refine ⟨a, o, rfl, dg, kval ((k.mono p1 g1).mono p2 g2) S2 (.bl _) ?_⟩
    rcases ov with ⟨rfl, rfl⟩ | ⟨v, t, rfl, rfl, _⟩ <;> exact q3
instance {td ty : TE} {wd wy : VW} [hd : VE K B E td wd] [hy : VE K B E ty wy] : VE K B E (tDNotInK K ty td) (vDIn true K wy wd) where
  run := fun {as γ σ G H Q Qv Xv} S h k kx => by
    refine hy.run S h (fun r1 γ1 as1 v1 G1 H1 p1 g1 S1 rr1 q1 => ?_) kx
    refine hd.run S1 q1 (fun r2 γ2 as2 v2 G2 H2 p2 g2 S2 rr2 q2 => ?_) (kx.mono p1 g1)
    obtain ⟨d, q2, z1⟩ := peek_ok S2 rr2 q2
    obtain ⟨y, q2, z2⟩ := peek_rp S2 (RR.mono rr1 p2 g2) q2
    obtain ⟨a, o, o', rfl, dg, q3, ov⟩ := dGetQ_ok S2 z1 z2 q2
    refine ⟨a, o, rfl, dg, kval ((k.mono p1 g1).mono p2 g2) S2 (.bl _) ?_⟩
    rcases ov with ⟨rfl, rfl⟩ | ⟨v, t, rfl, rfl, _⟩ <;> exact q3
instance {td ty tv : TE} {wd wy wv : VW} [hd : VE K B E td wd] [hy : VE K B E ty wy] [hv : VE K B E tv wv] : VS K B E (sDPutK K td ty tv) (vDPut K wd wy wv) where
  run := fun {as γ σ G H D Dv} S h k => by
    refine hv.run S h (fun r1 γ1 as1 v1 G1 H1 p1 g1 S1 rr1 q1 => ?_) (k.ex σ)
    refine hd.run S1 q1 (fun r2 γ2 as2 v2 G2 H2 p2 g2 S2 rr2 q2 => ?_) ((k.ex σ).mono p1 g1)
    refine hy.run S2 q2 (fun r3 γ3 as3 v3 G3 H3 p3 g3 S3 rr3 q3 => ?_) (((k.ex σ).mono p1 g1).mono p2 g2)
    obtain ⟨t, γ4, G4, g4, S4, rp, q4⟩ := toT_ok S3 (RR.mono (RR.mono rr1 p2 g2) p3 g3) q3
    obtain ⟨y, q4, z2⟩ := peek_rp S4 (RR.mono rr3 (List.prefix_refl _) g4) q4
    have gg := ((g1.trans g2).trans g3).trans g4
    have pp := (p1.trans p2).trans p3
    unfold setD at q4
    cases r2 with
    | val _ => exact q4.elim
    | err _ _ => exact q4.elim
    | ref kk =>
      obtain ⟨a, ea, rfl⟩ := rr2
      obtain ⟨r, hr⟩ := p3
      have ea : as3[kk]? = some a := by rw [← hr, List.getElem?_append_left (List.getElem?_eq_some_iff.mp ea).1]; exact ea
      simp only [nth_eq] at q4
      split at q4
      · rename_i ks e
        obtain ⟨key, ek, q4⟩ := isS_ok q4
        obtain ⟨_, kvs, ha, rf⟩ := S4.mem _ a _ ea e
        rw [keyT_ok z2 ek]
        refine ⟨a, _, rfl, DPut.k ha (by rw [rf.len]; rw [sizeLine_eq]; omega), ?_⟩
        have S5 := S4.write (o := .dK (putK kvs key v1)) (t := .dk (putA ks key t)) e ea ⟨_, upd_same, rf.put key rp⟩
        exact k.nx _ _ _ _ _ pp gg S5 q4.2
      · rename_i ks e
        obtain ⟨n, q4⟩ := q4
        obtain ⟨key, ek, q4⟩ := isS_ok q4
        obtain ⟨_, kvs, ha, rf⟩ := S4.mem _ a _ ea e
        obtain ⟨b, rfl, hb⟩ := keyI_ok n z2 ek
        refine ⟨a, _, rfl, DPut.t ha hb (by rw [rf.len]; rw [sizeLine_eq]; omega), ?_⟩
        have S5 := S4.write (o := .dT (putK kvs key v1)) (t := .dt (putA ks key t)) e ea ⟨_, upd_same, rf.put key rp⟩
        exact k.nx _ _ _ _ _ pp gg S5 q4.2
      · exact q4.elim
/-! ### {} -/
def vDNew (t : T) : VW := fun γ Q _ => γ.new t Q
instance : VE K B E tDNewK (vDNew (.dk [])) where
  run := fun {as γ σ G H Q Qv Xv} S h k _ => fun p hp => by
    have S' := S.alloc (t := .dk []) (o := .dK []) hp ⟨[], upd_same, rfl, .nil⟩
    refine k (.ref γ.mem.length) _ _ _ G _ (List.prefix_append _ _) (Same.refl _) S' ⟨p, ?_, rfl⟩ h
    rw [← S.mlen, List.getElem?_append_right (Nat.le_refl _), Nat.sub_self]
    rfl
instance : VE K B E tDNewT (vDNew (.dt [])) where
  run := fun {as γ σ G H Q Qv Xv} S h k _ => fun p hp => by
    have S' := S.alloc (t := .dt []) (o := .dT []) hp ⟨[], upd_same, rfl, .nil⟩
    refine k (.ref γ.mem.length) _ _ _ G _ (List.prefix_append _ _) (Same.refl _) S' ⟨p, ?_, rfl⟩ h
    rw [← S.mlen, List.getElem?_append_right (Nat.le_refl _), Nat.sub_self]
    rfl
/-! ### the rules, the module named -/
section
variable {X : Cx} {o i value : Expr} {pos pos' : Pos} {td ty tv : TE}
theorem pe_dgetK (ek : X.K = K) (hu : X.A.units + 65 < cLine) (ho : PE X o td) (hi : PE X i ty) (hs : NoSl i) : PE X (.Subscript o i pos) (tDGetK K td ty) := pe_dget (by omega) ho hi hs
theorem pe_dinK (ek : X.K = K) (hu : X.A.units + 65 < cLine) (hi : PE X i ty) (ho : PE X o td) : PC X .In i o (tDInK K ty td) := pc_din (by omega) hi ho
theorem pe_dnotinK (ek : X.K = K) (hu : X.A.units + 65 < cLine) (hi : PE X i ty) (ho : PE X o td) : PC X .NotIn i o (tDNotInK K ty td) := pc_dnotin (by omega) hi ho
theorem ps_dputK (ek : X.K = K) (hu : X.A.units + 65 < cLine) (ho : PE X o td) (hi : PE X i ty) (hv : PE X value tv) (hs : swapsWith value (some (.Subscript o i pos')) pos.line X.env = pure false) : PS X (.Assign [.Subscript o i pos'] value pos) (sDPutK K td ty tv) := ps_dput (by omega) ho hi hv hs
end
end
end VL
set_option Elab.async false
set_option linter.all false
set_option maxRecDepth 100000
set_option maxHeartbeats 4000000
/-! comprehensions over an open list, with draws -/
namespace VL
open PySem PySem.Spec PyProof.Rows L2 XR
section
variable {β : Type} {γ1 : Env} {vs : List Nat} {step : T → Env → (Env → Prop) → Prop} {Q : RQ} {α : Type} {xs : List α} {f : α → T} {k : Nat}
theorem lc_mapLF (F : Env → β → Env) (P : Nat → β → Prop) (hon : ∀ s, nth (F γ1 s).mem k = some (.mu (.lst (xs.map f)))) (h0 : NLs (γ1.mem.length + 1) vs (F γ1) (P 0) (γ1.push (.mu (.lst []))))
    (hs : ∀ i x s, xs[i]? = some x → P i s → step (f x) ((F γ1 s).wipe vs) (NLs (γ1.mem.length + 1) vs (F γ1) (P (i + 1)))) (hd : ∀ s, P xs.length s → Q (.ref γ1.mem.length) (F γ1 s)) : LcI (.live k (xs.map f)) γ1 vs step Q := by
  unfold NLs at h0 hs
  refine ⟨fun i γ => ∃ s, γ = F γ1 s ∧ P i s, h0, fun i γ2 h => ?_, fun i t γ2 e h => ?_, fun γ2 h => ?_⟩
  · obtain ⟨s, rfl, _⟩ := h
    exact hon s
  · obtain ⟨s, rfl, p⟩ := h
    have e : (xs.map f)[i]? = some t := e
    rw [List.getElem?_map] at e
    cases ex : xs[i]? with
    | none => rw [ex] at e; cases e
    | some x =>
      rw [ex] at e
      cases e
      exact hs i x s ex p
  · obtain ⟨s, rfl, p⟩ := h
    exact hd s (by have e : ((xs.map f).length) = xs.length := List.length_map _; rw [← e]; exact p)
end
end VL
set_option Elab.async false
set_option linter.all false
set_option maxRecDepth 100000
set_option maxHeartbeats 4000000
/-! f(k = v, ..) of a def, all by keywords -/
namespace VL
open PySem PySem.Spec PyProof.Rows L2 XR
/-- chosen by places -/
def pick {α : Type} (ix : List Nat) (xs : List α) : List α := ix.filterMap fun i => xs[i]?
theorem pick_vals {ix : List Nat} {vs : List V} {us : List Value} (r : Vals vs us) : Vals (pick ix vs) (pick ix us) := by
  unfold pick
  induction ix with
  | nil => exact .nil
  | cons i ix ih =>
    rw [List.filterMap_cons, List.filterMap_cons]
    have h : (vs[i]? = none ∧ us[i]? = none) ∨ ∃ v u, vs[i]? = some v ∧ us[i]? = some u ∧ RelV v u := by
      clear ih
      induction r generalizing i with
      | nil => exact .inl ⟨rfl, rfl⟩
      | @cons v u vs us a b ih =>
        cases i with
        | zero => exact .inr ⟨v, u, rfl, rfl, a⟩
        | succ i => exact ih i
    rcases h with ⟨h1, h2⟩ | ⟨v, u, h1, h2, h3⟩
    · rw [h1, h2]; exact ih
    · rw [h1, h2]; exact .cons h3 ih
theorem pick_rrs {K : PySem.W.Frag} {ex : Addr × Value × Option Addr} {as : List Addr} {G : Hp} {ix : List Nat} {rs : List Rf} {vs : List V} (r : RRs K ex as G rs vs) : RRs K ex as G (pick ix rs) (pick ix vs) := by
  unfold pick
  induction ix with
  | nil => exact .nil
  | cons i ix ih =>
    rw [List.filterMap_cons, List.filterMap_cons]
    have h : (rs[i]? = none ∧ vs[i]? = none) ∨ ∃ v u, rs[i]? = some v ∧ vs[i]? = some u ∧ RR K ex as G v u := by
      clear ih
      induction r generalizing i with
      | nil => exact .inl ⟨rfl, rfl⟩
      | @cons v u vs us a b ih =>
        cases i with
        | zero => exact .inr ⟨_, _, rfl, rfl, by assumption⟩
        | succ i => exact ih i
    rcases h with ⟨h1, h2⟩ | ⟨v, u, h1, h2, h3⟩
    · rw [h1, h2]; exact ih
    · rw [h1, h2]; exact .cons h3 ih
section
variable {X : Cx} {CX : CXT} {k : Nat} {f : Addr} {fd : FuncData} {ps ks : List Str} {sp : Sp} {E : XK} {x : Str} {p pos : Pos} {kws : List Keyword} {tk : TA} {g : List Value → List Value → List Value} {gV : List V → List V → List V}
/-- f(k = v, ..) -/
theorem pe_callK0 (F : FnOk X.prog X.w X.K X.mg X.base CX k f fd ps sp) (hr : Room k X.A) (hg : Gl X x) (hm : X.mg x = some (.ref f)) (hk : PySem.W.keepIn X.K (.ref f) = true) (hb : KBinds X.K fd ps ks g gV) (hx : Passes CX X E)
    (hkw : PK X kws tk) (hall : (backToKw pos (keywordEach kws X.env)).all (·.1.isSome) = true := by rfl) (hks : (backToKw pos (keywordEach kws X.env)).filterMap (·.1) = ks := by rfl)
    (hdb : (x == ("__debug__" : Str)) = false := by decide)
    (hpl : ((backTo pos (starEach [] X.env)).any (·.1) || (backToKw pos (keywordEach kws X.env)).any (·.1.isNone)) = false := by rfl) :
    PE X (.Call (.Name x p) [] kws pos) (tCallK sp gV E tNil tk) := by
  refine ⟨fun pins s σ H Q I h => ?_⟩
  refine wpAny_Call_Name_kw (ld_glob I hg hm ?_ hdb)
  refine PySem.W.callWith_KW0 (h₀ := X.base) I.ok.mod.kin hk hall ?_ hpl
  refine thn (hkw.run pos pins s σ H _ I h) fun ws s2 ⟨zs, H2, I2, rz, q2⟩ => ⟨I2.kIn, ?_⟩
  rw [hks]
  exact run_fnk F hr hb hx I2 .nil rz q2
end
theorem rrs_app {K : PySem.W.Frag} {ex : Addr × Value × Option Addr} {as : List Addr} {G : Hp} {rs rs' : List Rf} {vs vs' : List V} (a : RRs K ex as G rs vs) (b : RRs K ex as G rs' vs') : RRs K ex as G (rs ++ rs') (vs ++ vs') := by
  induction a with
  | nil => exact b
  | cons h _ ih => exact .cons h ih
theorem rrs_len {K : PySem.W.Frag} {ex : Addr × Value × Option Addr} {as : List Addr} {G : Hp} {rs : List Rf} {vs : List V} (a : RRs K ex as G rs vs) : rs.length = vs.length := by
  induction a with
  | nil => rfl
  | cons h _ ih => rw [List.length_cons, List.length_cons, ih]
/-- n positional values and m keywords' values, in the parameters' order -/
def pickN {α : Type} (n m : Nat) (ix : List Nat) (us ws : List α) : List α := if us.length = n ∧ ws.length = m then pick ix (us ++ ws) else []
theorem vals_app {vs vs' : List V} {us us' : List Value} (a : Vals vs us) (b : Vals vs' us') : Vals (vs ++ vs') (us ++ us') := a.append b
theorem pickN_vals {n m : Nat} {ix : List Nat} {vs zs : List V} {us ws : List Value} (r : Vals vs us) (r2 : Vals zs ws) : Vals (pickN n m ix vs zs) (pickN n m ix us ws) := by
  unfold pickN
  rw [r.length, r2.length]
  split
  · exact pick_vals (r.append r2)
  · exact .nil
theorem kb_mk {K : PySem.W.Frag} {fd : FuncData} {ps ks : List Str} {n m : Nat} {ix : List Nat} (hp : ps ≠ [])
    (h : ∀ (s : Shared) (us ws : List Value), K.In s.heap → us.length = n → ws.length = m → BindsTo s fd ⟨us, ks.zip ws⟩ (ps.zip (pick ix (us ++ ws)))) : KBinds K fd ps ks (pickN n m ix) (pickN n m ix) := by
  refine ⟨fun s us ws X l => ?_, pickN_vals⟩
  unfold pickN at l ⊢
  by_cases c : us.length = n ∧ ws.length = m
  · rw [if_pos c] at l ⊢
    exact h s us ws X c.1 c.2
  · rw [if_neg c] at l
    exact absurd (List.eq_nil_of_length_eq_zero l.symm) hp
section
variable {K : PySem.W.Frag} {B : Bs} {E : L2.St → XK} {sp : Sp} {wf : List Rf → Env → RQ → XQ → Prop} [hf : VF K sp wf] {n m : Nat} {ix : List Nat} {t tk : TA} {wa wk : Env → (List Rf → Env → Prop) → XQ → Prop}
def vCallK (n m : Nat) (ix : List Nat) (wf : List Rf → Env → RQ → XQ → Prop) (wa wk : Env → (List Rf → Env → Prop) → XQ → Prop) : VW := fun γ Q X => wa γ (fun rs γ1 => wk γ1 (fun zs γ2 => (rs.length = n ∧ zs.length = m) ∧ wf (pick ix (rs ++ zs)) γ2 Q noX) X) X
instance [ha : VA K B E t wa] [hk : VA K B E tk wk] : VE K B E (tCallK sp (pickN n m ix) E0 t tk) (vCallK n m ix wf wa wk) where
  run := fun {as γ σ G H Q Qv Xv} S h k kx => by
    refine ha.run S h (fun rs γ1 as1 vs G1 H1 p1 g1 S1 rr1 q1 => ?_) kx
    refine hk.run S1 q1 (fun zs γ2 as2 us G2 H2 p2 g2 S2 rr2 q2 => ?_) (kx.mono p1 g1)
    have e : pickN n m ix vs us = pick ix (vs ++ us) := by
      unfold pickN
      rw [if_pos ⟨(rrs_len rr1).symm.trans q2.1.1, (rrs_len rr2).symm.trans q2.1.2⟩]
    show sp (pickN n m ix vs us) H2 Q E0
    rw [e]
    exact hf.run S2 (pick_rrs (rrs_app (RRs.mono p2 g2 rr1) rr2)) q2.2 ((k.mono p1 g1).mono p2 g2) kxno
end
end VL
set_option Elab.async false
set_option linter.all false
set_option maxRecDepth 100000
set_option maxHeartbeats 4000000
set_option synthInstance.maxSize 1000000
set_option synthInstance.maxHeartbeats 4000000
namespace Toy
open PySem L2 XR VL
def top (i : Nat) : Stmt := PySem.Challenge.pw_fittingpasts_k20_stays_asked.main.body.getD i (.Pass ⟨0, 0, 0, 0⟩)
abbrev s__wall : Stmt := top 0
abbrev s_OutOfRange_init : Stmt := inClass (top 3) 0
abbrev s_EmptyStay_init : Stmt := inClass (top 4) 0
abbrev s_NoCommonDay_init : Stmt := inClass (top 5) 0
abbrev s_Stay_init : Stmt := inClass (top 8) 0
abbrev s_Stay___eq__ : Stmt := inClass (top 8) 1
abbrev s_Stay___str__ : Stmt := inClass (top 8) 2
abbrev s_Stay___contains__ : Stmt := inClass (top 8) 3
abbrev s_Stay___add__ : Stmt := inClass (top 8) 4
abbrev s_Stay___sub__ : Stmt := inClass (top 8) 5
abbrev s_Stay___and__ : Stmt := inClass (top 8) 6
abbrev s_Stay___or__ : Stmt := inClass (top 8) 7
abbrev s_Stay_width : Stmt := inClass (top 8) 8
abbrev s_Stay_meets : Stmt := inClass (top 8) 9
abbrev s_Stay_within : Stmt := inClass (top 8) 10
abbrev s_Stay_crosses : Stmt := inClass (top 8) 11
abbrev s_Stay_parts_without : Stmt := inClass (top 8) 12
abbrev s_Stay_around : Stmt := inClass (top 8) 13
abbrev s__check_days : Stmt := top 10
abbrev s__noted : Stmt := top 11
abbrev s__days : Stmt := top 12
abbrev s_least_stays : Stmt := top 13
abbrev s_greatest_stays : Stmt := top 14
abbrev s_surely_on : Stmt := top 15
abbrev s__first_pair : Stmt := top 16
abbrev s_meeting_pairs : Stmt := top 17
abbrev s__law_draws : Stmt := top 19
abbrev s__law_take : Stmt := top 20
abbrev s__law_number : Stmt := top 21
abbrev s__law_is : Stmt := top 22
abbrev s__law_true_notes : Stmt := top 23
abbrev s__law_empty_days : Stmt := top 24
abbrev s__law_notes : Stmt := top 25
abbrev s__law_fences : Stmt := top 26
abbrev s__law_fitting : Stmt := top 27
abbrev s__law_least : Stmt := top 28
abbrev s__law_greatest : Stmt := top 29
abbrev s__law_person : Stmt := top 30
abbrev s__law_word : Stmt := top 31
abbrev s__law_words : Stmt := top 32
abbrev s__law_common : Stmt := top 33
abbrev s__law_first_pair : Stmt := top 34
abbrev s__law_item : Stmt := top 35
abbrev s__law_pairs : Stmt := top 36
abbrev s_law : Stmt := top 37
/-- where the defs and classes of the text stand -/
structure Ad where
  a_OutOfRange_init : Addr
  d_OutOfRange_init : FuncData
  a_EmptyStay_init : Addr
  d_EmptyStay_init : FuncData
  a_Stay_init : Addr
  d_Stay_init : FuncData
  a_Stay___contains__ : Addr
  d_Stay___contains__ : FuncData
  a_Stay_meets : Addr
  d_Stay_meets : FuncData
  a_Stay_around : Addr
  d_Stay_around : FuncData
  a__check_days : Addr
  d__check_days : FuncData
  a__noted : Addr
  d__noted : FuncData
  a__days : Addr
  d__days : FuncData
  a_least_stays : Addr
  d_least_stays : FuncData
  a_greatest_stays : Addr
  d_greatest_stays : FuncData
  a_surely_on : Addr
  d_surely_on : FuncData
  a__first_pair : Addr
  d__first_pair : FuncData
  a_meeting_pairs : Addr
  d_meeting_pairs : FuncData
  a__law_draws : Addr
  d__law_draws : FuncData
  a__law_take : Addr
  d__law_take : FuncData
  a__law_number : Addr
  d__law_number : FuncData
  a__law_is : Addr
  d__law_is : FuncData
  a__law_true_notes : Addr
  d__law_true_notes : FuncData
  a__law_empty_days : Addr
  d__law_empty_days : FuncData
  a__law_notes : Addr
  d__law_notes : FuncData
  a__law_fences : Addr
  d__law_fences : FuncData
  a__law_fitting : Addr
  d__law_fitting : FuncData
  a__law_least : Addr
  d__law_least : FuncData
  a__law_greatest : Addr
  d__law_greatest : FuncData
  a__law_person : Addr
  d__law_person : FuncData
  a__law_word : Addr
  d__law_word : FuncData
  a__law_words : Addr
  d__law_words : FuncData
  a__law_common : Addr
  d__law_common : FuncData
  a__law_first_pair : Addr
  d__law_first_pair : FuncData
  a__law_item : Addr
  d__law_item : FuncData
  a__law_pairs : Addr
  d__law_pairs : FuncData
  a_law : Addr
  d_law : FuncData
  c_ArchiveError : Addr
  c_OutOfRange : Addr
  c_EmptyStay : Addr
  c_NoCommonDay : Addr
  c_NoDays : Addr
  c_Stay : Addr
  p_Stay_around : Addr
structure Txt (K : PySem.W.Frag) (mg : Str → Option Value) (D : Ad) : Prop where
  F_OutOfRange_init : Fun K "__init__" "OutOfRange.__init__" s_OutOfRange_init D.a_OutOfRange_init D.d_OutOfRange_init
  b_OutOfRange_init : Binds K D.d_OutOfRange_init ["self", "value"] []
  m_OutOfRange_init : PySem.W.findIn K (.ref D.c_OutOfRange) "__init__" = some (some (.ref D.a_OutOfRange_init))
  i_OutOfRange_init : PySem.W.isFn K (.ref D.a_OutOfRange_init) = true
  F_EmptyStay_init : Fun K "__init__" "EmptyStay.__init__" s_EmptyStay_init D.a_EmptyStay_init D.d_EmptyStay_init
  b_EmptyStay_init : Binds K D.d_EmptyStay_init ["self", "come", "go"] []
  m_EmptyStay_init : PySem.W.findIn K (.ref D.c_EmptyStay) "__init__" = some (some (.ref D.a_EmptyStay_init))
  i_EmptyStay_init : PySem.W.isFn K (.ref D.a_EmptyStay_init) = true
  F_Stay_init : Fun K "__init__" "Stay.__init__" s_Stay_init D.a_Stay_init D.d_Stay_init
  b_Stay_init : Binds K D.d_Stay_init ["self", "come", "go"] []
  m_Stay_init : PySem.W.findIn K (.ref D.c_Stay) "__init__" = some (some (.ref D.a_Stay_init))
  i_Stay_init : PySem.W.isFn K (.ref D.a_Stay_init) = true
  F_Stay___contains__ : Fun K "__contains__" "Stay.__contains__" s_Stay___contains__ D.a_Stay___contains__ D.d_Stay___contains__
  b_Stay___contains__ : Binds K D.d_Stay___contains__ ["self", "day"] []
  m_Stay___contains__ : PySem.W.findIn K (.ref D.c_Stay) "__contains__" = some (some (.ref D.a_Stay___contains__))
  i_Stay___contains__ : PySem.W.isFn K (.ref D.a_Stay___contains__) = true
  F_Stay_meets : Fun K "meets" "Stay.meets" s_Stay_meets D.a_Stay_meets D.d_Stay_meets
  b_Stay_meets : Binds K D.d_Stay_meets ["self", "other"] []
  m_Stay_meets : PySem.W.findIn K (.ref D.c_Stay) "meets" = some (some (.ref D.a_Stay_meets))
  i_Stay_meets : PySem.W.isFn K (.ref D.a_Stay_meets) = true
  F_Stay_around : Fun K "around" "Stay.around" s_Stay_around D.a_Stay_around D.d_Stay_around
  b_Stay_around : Binds K D.d_Stay_around ["days"] []
  sr_Stay_around : PySem.W.readsIn K D.c_Stay (.type "type") = true
  sg_Stay_around : PySem.W.specialIn K (.ref D.c_Stay) "__getattribute__" = some (some (.builtin "type.__getattribute__"))
  pa_Stay_around : PySem.W.findCls K (.ref D.c_Stay) (.type "type") "around" = some (.get (.builtin "staticmethod.__get__") (.ref D.p_Stay_around) .none (.ref D.c_Stay))
  pr_Stay_around : ∃ rest, PySem.W.recIn K D.p_Stay_around "staticmethod" = some (.ref D.a_Stay_around :: rest)
  F__check_days : Fun K "_check_days" "_check_days" s__check_days D.a__check_days D.d__check_days
  b__check_days : Binds K D.d__check_days ["notes", "last"] []
  g__check_days : mg "_check_days" = some (.ref D.a__check_days)
  F__noted : Fun K "_noted" "_noted" s__noted D.a__noted D.d__noted
  b__noted : Binds K D.d__noted ["notes", "seen"] []
  g__noted : mg "_noted" = some (.ref D.a__noted)
  F__days : Fun K "_days" "_days" s__days D.a__days D.d__days
  b__days : Binds K D.d__days ["noted"] []
  g__days : mg "_days" = some (.ref D.a__days)
  F_least_stays : Fun K "least_stays" "least_stays" s_least_stays D.a_least_stays D.d_least_stays
  b_least_stays : Binds K D.d_least_stays ["notes", "last"] []
  g_least_stays : mg "least_stays" = some (.ref D.a_least_stays)
  F_greatest_stays : Fun K "greatest_stays" "greatest_stays" s_greatest_stays D.a_greatest_stays D.d_greatest_stays
  b_greatest_stays : Binds K D.d_greatest_stays ["notes", "last"] []
  g_greatest_stays : mg "greatest_stays" = some (.ref D.a_greatest_stays)
  F_surely_on : Fun K "surely_on" "surely_on" s_surely_on D.a_surely_on D.d_surely_on
  b_surely_on : Binds K D.d_surely_on ["notes", "last", "day"] []
  g_surely_on : mg "surely_on" = some (.ref D.a_surely_on)
  F__first_pair : Fun K "_first_pair" "_first_pair" s__first_pair D.a__first_pair D.d__first_pair
  b__first_pair : Binds K D.d__first_pair ["stays", "others", "meeting"] []
  g__first_pair : mg "_first_pair" = some (.ref D.a__first_pair)
  F_meeting_pairs : Fun K "meeting_pairs" "meeting_pairs" s_meeting_pairs D.a_meeting_pairs D.d_meeting_pairs
  b_meeting_pairs : Binds K D.d_meeting_pairs ["notes", "other", "last"] []
  g_meeting_pairs : mg "meeting_pairs" = some (.ref D.a_meeting_pairs)
  F__law_draws : Fun K "_law_draws" "_law_draws" s__law_draws D.a__law_draws D.d__law_draws
  b__law_draws : Binds K D.d__law_draws ["_law_script"] []
  g__law_draws : mg "_law_draws" = some (.ref D.a__law_draws)
  F__law_take : Fun K "_law_take" "_law_take" s__law_take D.a__law_take D.d__law_take
  b__law_take : Binds K D.d__law_take ["_law_box", "_law_limit"] []
  g__law_take : mg "_law_take" = some (.ref D.a__law_take)
  F__law_number : Fun K "_law_number" "_law_number" s__law_number D.a__law_number D.d__law_number
  b__law_number : Binds K D.d__law_number ["_law_actual", "_law_due"] []
  g__law_number : mg "_law_number" = some (.ref D.a__law_number)
  F__law_is : Fun K "_law_is" "_law_is" s__law_is D.a__law_is D.d__law_is
  b__law_is : Binds K D.d__law_is ["_law_stay", "_law_days"] []
  g__law_is : mg "_law_is" = some (.ref D.a__law_is)
  F__law_true_notes : Fun K "_law_true_notes" "_law_true_notes" s__law_true_notes D.a__law_true_notes D.d__law_true_notes
  b__law_true_notes : Binds K D.d__law_true_notes ["_law_box", "_law_last", "_law_low", "_law_high", "_law_most"] []
  g__law_true_notes : mg "_law_true_notes" = some (.ref D.a__law_true_notes)
  F__law_empty_days : Fun K "_law_empty_days" "_law_empty_days" s__law_empty_days D.a__law_empty_days D.d__law_empty_days
  b__law_empty_days : Binds K D.d__law_empty_days ["_law_box", "_law_last"] []
  g__law_empty_days : mg "_law_empty_days" = some (.ref D.a__law_empty_days)
  F__law_notes : Fun K "_law_notes" "_law_notes" s__law_notes D.a__law_notes D.d__law_notes
  b__law_notes : Binds K D.d__law_notes ["_law_box", "_law_last", "_law_low", "_law_high"] []
  g__law_notes : mg "_law_notes" = some (.ref D.a__law_notes)
  F__law_fences : Fun K "_law_fences" "_law_fences" s__law_fences D.a__law_fences D.d__law_fences
  b__law_fences : Binds K D.d__law_fences ["_law_box", "_law_last", "_law_low", "_law_high"] []
  g__law_fences : mg "_law_fences" = some (.ref D.a__law_fences)
  F__law_fitting : Fun K "_law_fitting" "_law_fitting" s__law_fitting D.a__law_fitting D.d__law_fitting
  b__law_fitting : Binds K D.d__law_fitting ["_law_notes_here", "_law_last"] []
  g__law_fitting : mg "_law_fitting" = some (.ref D.a__law_fitting)
  F__law_least : Fun K "_law_least" "_law_least" s__law_least D.a__law_least D.d__law_least
  b__law_least : Binds K D.d__law_least ["_law_rows"] []
  g__law_least : mg "_law_least" = some (.ref D.a__law_least)
  F__law_greatest : Fun K "_law_greatest" "_law_greatest" s__law_greatest D.a__law_greatest D.d__law_greatest
  b__law_greatest : Binds K D.d__law_greatest ["_law_rows"] []
  g__law_greatest : mg "_law_greatest" = some (.ref D.a__law_greatest)
  F__law_person : Fun K "_law_person" "_law_person" s__law_person D.a__law_person D.d__law_person
  b__law_person : Binds K D.d__law_person ["_law_box", "_law_last", "_law_wide"] []
  g__law_person : mg "_law_person" = some (.ref D.a__law_person)
  F__law_word : Fun K "_law_word" "_law_word" s__law_word D.a__law_word D.d__law_word
  b__law_word : Binds K D.d__law_word ["_law_rows", "_law_day"] []
  g__law_word : mg "_law_word" = some (.ref D.a__law_word)
  F__law_words : Fun K "_law_words" "_law_words" s__law_words D.a__law_words D.d__law_words
  b__law_words : Binds K D.d__law_words ["_law_box", "_law_notes_here", "_law_last", "_law_rows"] []
  g__law_words : mg "_law_words" = some (.ref D.a__law_words)
  F__law_common : Fun K "_law_common" "_law_common" s__law_common D.a__law_common D.d__law_common
  b__law_common : Binds K D.d__law_common ["_law_one", "_law_other"] []
  g__law_common : mg "_law_common" = some (.ref D.a__law_common)
  F__law_first_pair : Fun K "_law_first_pair" "_law_first_pair" s__law_first_pair D.a__law_first_pair D.d__law_first_pair
  b__law_first_pair : Binds K D.d__law_first_pair ["_law_rows", "_law_others", "_law_common_here"] []
  g__law_first_pair : mg "_law_first_pair" = some (.ref D.a__law_first_pair)
  F__law_item : Fun K "_law_item" "_law_item" s__law_item D.a__law_item D.d__law_item
  b__law_item : Binds K D.d__law_item ["_law_actual", "_law_due"] []
  g__law_item : mg "_law_item" = some (.ref D.a__law_item)
  F__law_pairs : Fun K "_law_pairs" "_law_pairs" s__law_pairs D.a__law_pairs D.d__law_pairs
  b__law_pairs : Binds K D.d__law_pairs ["_law_actual", "_law_mine", "_law_others"] []
  g__law_pairs : mg "_law_pairs" = some (.ref D.a__law_pairs)
  F_law : Fun K "law" "law" s_law D.a_law D.d_law
  b_law : Binds K D.d_law ["_law_script"] []
  g_law : mg "law" = some (.ref D.a_law)
  g_ArchiveError : mg "ArchiveError" = some (.ref D.c_ArchiveError)
  k_ArchiveError : PySem.W.keepIn K (.ref D.c_ArchiveError) = true
  g_OutOfRange : mg "OutOfRange" = some (.ref D.c_OutOfRange)
  k_OutOfRange : PySem.W.keepIn K (.ref D.c_OutOfRange) = true
  g_EmptyStay : mg "EmptyStay" = some (.ref D.c_EmptyStay)
  k_EmptyStay : PySem.W.keepIn K (.ref D.c_EmptyStay) = true
  g_NoCommonDay : mg "NoCommonDay" = some (.ref D.c_NoCommonDay)
  k_NoCommonDay : PySem.W.keepIn K (.ref D.c_NoCommonDay) = true
  g_NoDays : mg "NoDays" = some (.ref D.c_NoDays)
  k_NoDays : PySem.W.keepIn K (.ref D.c_NoDays) = true
  g_Stay : mg "Stay" = some (.ref D.c_Stay)
  k_Stay : PySem.W.keepIn K (.ref D.c_Stay) = true
  n_ValueError : mg "ValueError" = none
  n_abs : mg "abs" = none
  n_all : mg "all" = none
  n_any : mg "any" = none
  n_bool : mg "bool" = none
  n_enumerate : mg "enumerate" = none
  n_int : mg "int" = none
  n_isinstance : mg "isinstance" = none
  n_len : mg "len" = none
  n_list : mg "list" = none
  n_max : mg "max" = none
  n_min : mg "min" = none
  n_range : mg "range" = none
  n_sorted : mg "sorted" = none
  n_str : mg "str" = none
  n_tuple : mg "tuple" = none
  oxl_EmptyStay : ∃ nm q N bs bm sn sub ab col dd k0 k1 k2 k3 k5, K.lookup D.c_EmptyStay = some (excClassObj nm q D.c_EmptyStay N bs bm true sn sub ab col dd k0 k1 k2 k3 k5 "ValueError.__new__") ∧ PySem.HandSPX.refsVE bm = true
  xsa_EmptyStay : PySem.W.findIn K (.ref D.c_EmptyStay) "__setattr__" = some (some (.builtin "object.__setattr__"))
  xga_EmptyStay : PySem.W.findIn K (.ref D.c_EmptyStay) "__getattribute__" = some (some (.builtin "BaseException.__getattribute__"))
  xgg_EmptyStay : PySem.W.findIn K (.ref D.c_EmptyStay) "__getattr__" = some none
  xbe_EmptyStay : PySem.W.subIn K (.ref D.c_EmptyStay) (.type "BaseException") = some true
  xty_EmptyStay : PySem.W.typeIn K (.ref D.c_EmptyStay) = some (.type "type")
  xhd_EmptyStay : PySem.W.hasDictIn K D.c_EmptyStay = true
  xca_EmptyStay : PySem.W.findIn K (.ref D.c_EmptyStay) "__class__" = some (some (.builtin "object.__class__"))
  xmo_EmptyStay : PySem.W.mroIn K D.c_EmptyStay (.type "object") = some true
  xti_EmptyStay : PySem.W.typeIn K (.ref D.a_EmptyStay_init) = some (.type "function")
  oxl_OutOfRange : ∃ nm q N bs bm sn sub ab col dd k0 k1 k2 k3 k5, K.lookup D.c_OutOfRange = some (excClassObj nm q D.c_OutOfRange N bs bm true sn sub ab col dd k0 k1 k2 k3 k5 "ValueError.__new__") ∧ PySem.HandSPX.refsVE bm = true
  xsa_OutOfRange : PySem.W.findIn K (.ref D.c_OutOfRange) "__setattr__" = some (some (.builtin "object.__setattr__"))
  xga_OutOfRange : PySem.W.findIn K (.ref D.c_OutOfRange) "__getattribute__" = some (some (.builtin "BaseException.__getattribute__"))
  xgg_OutOfRange : PySem.W.findIn K (.ref D.c_OutOfRange) "__getattr__" = some none
  xbe_OutOfRange : PySem.W.subIn K (.ref D.c_OutOfRange) (.type "BaseException") = some true
  xty_OutOfRange : PySem.W.typeIn K (.ref D.c_OutOfRange) = some (.type "type")
  xhd_OutOfRange : PySem.W.hasDictIn K D.c_OutOfRange = true
  xca_OutOfRange : PySem.W.findIn K (.ref D.c_OutOfRange) "__class__" = some (some (.builtin "object.__class__"))
  xmo_OutOfRange : PySem.W.mroIn K D.c_OutOfRange (.type "object") = some true
  xti_OutOfRange : PySem.W.typeIn K (.ref D.a_OutOfRange_init) = some (.type "function")
  xq_NoDays : PySem.W.excIn K D.c_NoDays [.type "ValueError", .type "Exception", .type "BaseException", .type "object"] "ValueError.__new__" = true
  xga_NoDays : PySem.W.findIn K (.ref D.c_NoDays) "__getattribute__" = some (some (.builtin "BaseException.__getattribute__"))
  xgg_NoDays : PySem.W.findIn K (.ref D.c_NoDays) "__getattr__" = some none
  xbe_NoDays : PySem.W.subIn K (.ref D.c_NoDays) (.type "BaseException") = some true
  xty_NoDays : PySem.W.typeIn K (.ref D.c_NoDays) = some (.type "type")
  xhd_NoDays : PySem.W.hasDictIn K D.c_NoDays = true
  xca_NoDays : PySem.W.findIn K (.ref D.c_NoDays) "__class__" = some (some (.builtin "object.__class__"))
  xmo_NoDays : PySem.W.mroIn K D.c_NoDays (.type "object") = some true
  cn_ : PySem.W.specialIn K (.builtin "object.__class__") "__get__" = some (some (.builtin "getset_descriptor.__get__"))
  ct_ : PySem.W.takesIn K (.builtin "object.__class__") = some true
  ymk_Stay : PySem.W.makesIn K D.c_Stay = true
  ypg_Stay : PySem.W.plainGet K D.c_Stay Str.empty = true
  yhd_Stay : PySem.W.hasDictIn K D.c_Stay = true
  ypo_Stay : PySem.W.plainOver K D.c_Stay = true
  ysa_Stay : PySem.W.findIn K (.ref D.c_Stay) "__setattr__" = some (some (.builtin "object.__setattr__"))
  ysf_Stay : PySem.W.selfFirst K D.c_Stay = true
  yca_Stay : PySem.W.findIn K (.ref D.c_Stay) "__class__" = some (some (.builtin "object.__class__"))
  ymo_Stay : PySem.W.mroIn K D.c_Stay (.type "object") = some true
  e_EmptyStay_come : PySem.W.findIn K (.ref D.c_EmptyStay) "come" = some none
  e_EmptyStay_go : PySem.W.findIn K (.ref D.c_EmptyStay) "go" = some none
  e_OutOfRange_value : PySem.W.findIn K (.ref D.c_OutOfRange) "value" = some none
  zo_Stay_Stay : PySem.W.kitOne K (.ref D.c_Stay) (.ref D.c_Stay) = some true
  zo_Stay_bool : PySem.W.kitOne K (.ref D.c_Stay) (.type "bool") = some false
  zo_Stay_int : PySem.W.kitOne K (.ref D.c_Stay) (.type "int") = some false
  zo_Stay_str : PySem.W.kitOne K (.ref D.c_Stay) (.type "str") = some false
  zo_Stay_tuple : PySem.W.kitOne K (.ref D.c_Stay) (.type "tuple") = some false
  no_Stay_come : PySem.W.findIn K (.ref D.c_Stay) "come" = some none
  no_Stay_go : PySem.W.findIn K (.ref D.c_Stay) "go" = some none
  nit : VL.NoInt K
section
variable {K : PySem.W.Frag} {mg : Str → Option Value} {D : Ad}
theorem T_cl_Stay (T : Txt K mg D) : Cls K D.c_Stay := ⟨T.ypg_Stay, T.yhd_Stay, T.ypo_Stay, T.ysa_Stay⟩
theorem T_mk_Stay (T : Txt K mg D) : Mk K D.c_Stay D.a_Stay_init := ⟨T.ymk_Stay, T.m_Stay_init, T.i_Stay_init, T.k_Stay⟩
theorem T_ty_Stay (T : Txt K mg D) {H : Hp} {a dx : Addr} {fs : List (Str × V)} (e : H a = some (.ins D.c_Stay dx fs)) : TyX K H (.ref a) (.ref D.c_Stay) := .base (.ins e (T_cl_Stay T) T.yca_Stay T.cn_ T.ct_ T.ymo_Stay)
theorem T_s_Stay_around (T : Txt K mg D) : XR.CStat K D.c_Stay D.p_Stay_around D.a_Stay_around "around" := ⟨T.sr_Stay_around, T.sg_Stay_around, T.pa_Stay_around, T.pr_Stay_around⟩
theorem T_ox_EmptyStay (T : Txt K mg D) : OexC K D.c_EmptyStay := ⟨T.oxl_EmptyStay, T.xsa_EmptyStay, T.xbe_EmptyStay, T.xty_EmptyStay, T.k_EmptyStay⟩
theorem T_as_EmptyStay (T : Txt K mg D) : XR.Asks K D.c_EmptyStay := ⟨T.xga_EmptyStay, T.xgg_EmptyStay, T.xbe_EmptyStay, T.xhd_EmptyStay, T.xca_EmptyStay, T.cn_, T.ct_, T.xmo_EmptyStay⟩
theorem T_xf_EmptyStay (T : Txt K mg D) : XfC K D.c_EmptyStay := ⟨T.xga_EmptyStay, T.xgg_EmptyStay, T.xbe_EmptyStay, T.xhd_EmptyStay⟩
theorem T_ox_OutOfRange (T : Txt K mg D) : OexC K D.c_OutOfRange := ⟨T.oxl_OutOfRange, T.xsa_OutOfRange, T.xbe_OutOfRange, T.xty_OutOfRange, T.k_OutOfRange⟩
theorem T_as_OutOfRange (T : Txt K mg D) : XR.Asks K D.c_OutOfRange := ⟨T.xga_OutOfRange, T.xgg_OutOfRange, T.xbe_OutOfRange, T.xhd_OutOfRange, T.xca_OutOfRange, T.cn_, T.ct_, T.xmo_OutOfRange⟩
theorem T_xf_OutOfRange (T : Txt K mg D) : XfC K D.c_OutOfRange := ⟨T.xga_OutOfRange, T.xgg_OutOfRange, T.xbe_OutOfRange, T.xhd_OutOfRange⟩
theorem T_as_NoDays (T : Txt K mg D) : XR.Asks K D.c_NoDays := ⟨T.xga_NoDays, T.xgg_NoDays, T.xbe_NoDays, T.xhd_NoDays, T.xca_NoDays, T.cn_, T.ct_, T.xmo_NoDays⟩
end

section
variable {K : PySem.W.Frag} {mg : Str → Option Value} {D : Ad}
theorem T_o_Stay___contains__ (T : Txt K mg D) : XR.OwnM K D.c_Stay D.a_Stay___contains__ "__contains__" := ⟨T.m_Stay___contains__, T.i_Stay___contains__⟩
theorem T_m_Stay_meets (T : Txt K mg D) : Meth K D.c_Stay "meets" D.a_Stay_meets := ⟨T.m_Stay_meets, T.i_Stay_meets, T.F_Stay_meets.kp⟩
theorem T_kb_meeting_pairs_0_last_notes_other (T : Txt K mg D) : KBinds K D.d_meeting_pairs ["notes", "other", "last"] ["last", "notes", "other"] (VL.pickN 0 3 [1, 2, 0]) (VL.pickN 0 3 [1, 2, 0]) := by
  refine VL.kb_mk (by decide) fun s us ws X l1 l2 => ?_
  obtain ⟨oc, od, kV, doc, pm, an, cdv, ct, osl, e, lk, hcd⟩ := T.F_meeting_pairs.ex
  rw [e]
  match us, l1, ws, l2 with
  | [], _, [b0, b1, b2], _ => exact BindsTo.of_eq rfl
end
local macro_rules | `(tactic| walk_at "ne") => `(tactic| first | assumption | (apply Ne.symm; assumption) | exact XR.ne_fresh (by assumption) (by walk_at "hp") | exact Ne.symm (XR.ne_fresh (by assumption) (by walk_at "hp")))
local macro_rules | `(tactic| walk_at "hp") => `(tactic| first | assumption | exact upd_same | (refine Eq.trans (upd_ne ?_) ?_; (walk_at "ne"); walk_at "hp"))
local macro_rules | `(tactic| walk_at "sq") => `(tactic| first | walk_at "hp" | exact SqL.of (by walk_at "hp") | exact SqT.of (by walk_at "hp") | exact XR.SqT.same (by assumption) (by assumption) | exact XR.SqL.same (by assumption) (by assumption))
local macro_rules | `(tactic| walk_at "br") => `(tactic| (refine ite2 ?_ ?_ <;> intro hbr <;> (try simp only [decide_eq_true_eq, decide_eq_false_iff_not, V.int.injEq, V.bl.injEq, V.str.injEq, Bool.not_eq_true, Bool.not_eq_eq_eq_not, Bool.not_true, Bool.not_false, ne_eq, Int.reduceToNat, Int.reducePow, Int.reduceMul, Int.reduceAdd, Int.reduceSub, reduceCtorEq, not_true_eq_false, not_false_eq_true, Int.not_lt, Int.not_le] at hbr)))
local macro_rules | `(tactic| walk_at "side") => `(tactic| first
  | exact ⟨by decide, by decide, by decide⟩
  | exact .inl ⟨by decide, by decide⟩
  | exact .inr ⟨by decide, by decide⟩
  | exact XR.divw (by first | decide | omega) (by first | decide | omega)
  | (show (_ : Int) = _; first | rfl | omega)
  | (show (0 : Int) < _; first | decide | assumption | omega)
  | exact .inl ⟨by omega, by omega⟩
  | exact .inr ⟨by omega, by omega⟩
  | exact .inl (XR.cmul_mod (by decide))
  | exact XR.log_lt (by omega) (by omega)
  | decide
  | (rw [sizeLine_eq]; simp; done)
  | (show 2 ≤ sizeLine; decide) | (show 3 ≤ sizeLine; decide) | (show 4 ≤ sizeLine; decide) | (show 5 ≤ sizeLine; decide) | (show 6 ≤ sizeLine; decide) | (show 7 ≤ sizeLine; decide) | (show 1 ≤ sizeLine; decide) | (show 8 ≤ sizeLine; decide) | (show 0 ≤ sizeLine; decide))
local macro_rules | `(tactic| walk_at "rd1") => `(tactic| first
  | refine ⟨_, rfl, ?_⟩
  | refine ⟨_, _, rfl, rfl, ?_⟩
  | refine ⟨_, _, _, _, rfl, rfl, (by walk_at "sq"), rfl, ?_⟩
  | refine ⟨_, _, _, _, rfl, rfl, (by walk_at "hp"), (by walk_at "hp"), (by walk_at "side"), ?_⟩
  | refine ⟨_, _, rfl, .inl (by walk_at "sq"), ?_⟩
  | refine ⟨_, _, rfl, .inl ⟨(by walk_at "sq"), ?_⟩⟩
  | refine ⟨_, _, rfl, .inr (by walk_at "sq"), ?_⟩
  | refine ⟨_, _, _, _, _, rfl, (by walk_at "hp"), (by walk_at "cls"), (by walk_at "noat"), rfl, ?_⟩
  | refine ⟨_, _, _, _, rfl, rfl, (by walk_at "sq"), (by first | assumption | exact XR.at0 | exact XR.at1), ?_⟩
  | refine ⟨rfl, ?_⟩
  | refine And.intro (by walk_at "side") ?_
  | refine .inl ⟨_, rfl, ?_⟩
  | refine And.intro ⟨_, (by walk_at "sq")⟩ ?_
  | refine ⟨_, _, rfl, (by walk_at "sq"), ?_⟩
  | refine ⟨_, _, rfl, ?_⟩
  | refine .inr ⟨_, rfl, (by walk_at "side"), ?_⟩
  | refine ⟨_, _, _, rfl, (by walk_at "hp"), ?_⟩
  | refine iteT ?_
  | refine iteF ?_)
local macro_rules | `(tactic| walk_at "rd") => `(tactic| repeat (walk_at "rd1"))
local macro_rules | `(tactic| walk_at "nn") => `(tactic| (simp only [Int.reduceToNat, Int.reducePow, Int.reduceMul, Int.reduceAdd, Int.reduceSub, Int.reduceNeg]))
local macro_rules | `(tactic| walk_at "dr") => `(tactic| repeat (first | refine And.intro (by first | assumption | walk_at "pre") ?_ | refine And.intro (by first | decide | omega) ?_))
local macro_rules | `(tactic| walk_at "vi") => `(tactic| ((try dsimp only [L2.cxOf, L2.Cx.nox, L2.Cx.wish, L2.Cx.blk, L2.Cx.suite, L2.Cx.tr, L2H.cxH, List.map_cons, List.map_nil]); (try simp only [List.map_cons, List.map_nil]); infer_instance))
local macro_rules | `(tactic| walk_at "w") => `(tactic| conv => whnf)
local macro_rules | `(tactic| walk_at "sz") => `(tactic| first
  | (show _ ≤ sizeLine; rw [sizeLine_eq]; first | decide | omega | (simp; done) | (simp; omega))
  | (show _ < sizeLine; rw [sizeLine_eq]; first | decide | omega | (simp; done) | (simp; omega)))
local macro_rules | `(tactic| walk_at "ok") => `(tactic| first
  | exact encInt.list.ok (by decide) _ | exact encInt.tupl.ok (by decide) _ | exact encStr.list.ok (by decide) _ | exact encStr.tupl.ok (by decide) _
  | exact (encInt.pair encInt).list.ok (by decide) _ | exact (encInt.pair encInt).ok (by decide) _ | exact (encStr.pair encStr).list.ok (by decide) _ | exact (encStr.pair encStr).ok (by decide) _
  | exact encInt.tupl.list.ok (by decide) _)
local macro_rules | `(tactic| walk_at "vs") => `(tactic| first
  | exact trivial
  | assumption
  | exact rfl
  | exact ⟨rfl, rfl⟩
  | walk_at "ok"
  | walk_at "sz"
  | exact .inl (.inr ⟨by decide, by decide⟩)
  | exact .inl (.inl ⟨by first | decide | omega, by first | decide | omega⟩)
  | exact .inl (.inr ⟨by first | decide | omega, by first | decide | omega⟩)
  | exact XR.divw (by first | decide | omega) (by first | decide | omega)
  | (show (0 : Int) < _; first | decide | omega)
  | exact ⟨by first | decide | omega, by first | decide | omega⟩
  | exact ⟨by first | decide | omega, by first | decide | omega, by first | decide | omega⟩
  | exact ⟨by walk_at "sz", by omega, by omega⟩
  | exact ⟨by walk_at "cls", by walk_at "noat"⟩
  | exact ⟨by walk_at "xf", by walk_at "xe"⟩
  | walk_at "exm"
  | decide
  | exact XR.log_lt (by omega) (by omega)
  | ((try dsimp only); (try simp only [List.length_map, List.length_append, List.length_cons, List.length_nil, List.length_eraseIdx]); omega))
local macro_rules | `(tactic| walk_at "v") => `(tactic| (walk_at "w"; (repeat ((first | refine And.intro (by walk_at "vs") ?_ | refine isS_i (by assumption) ?_); walk_at "w")); (try walk_at "n")))
local macro_rules | `(tactic| walk_at "isi") => `(tactic| first | refine ⟨_, VL.IsI.int_int _, ?_⟩ | refine ⟨_, VL.IsI.int_bool _, ?_⟩ | refine ⟨_, VL.IsI.int_str _, ?_⟩ | refine ⟨_, VL.IsI.int_list _, ?_⟩ | refine ⟨_, VL.IsI.int_tuple _, ?_⟩ | refine ⟨_, VL.IsI.bl_int _, ?_⟩ | refine ⟨_, VL.IsI.bl_bool _, ?_⟩ | refine ⟨_, VL.IsI.bl_str _, ?_⟩ | refine ⟨_, VL.IsI.str_str _, ?_⟩ | refine ⟨_, VL.IsI.str_int _, ?_⟩ | refine ⟨_, VL.IsI.str_bool _, ?_⟩ | refine ⟨_, VL.IsI.lst_list _, ?_⟩ | refine ⟨_, VL.IsI.lst_tuple _, ?_⟩ | refine ⟨_, VL.IsI.tup_list _, ?_⟩ | refine ⟨_, VL.IsI.tup_tuple _, ?_⟩ | refine ⟨_, VL.IsI.tup_str _, ?_⟩ | refine ⟨_, VL.IsI.tup_int _, ?_⟩ | refine ⟨_, VL.IsI.dk_dict _, ?_⟩ | refine ⟨_, VL.IsI.non_int, ?_⟩ | refine ⟨_, VL.IsI.non_tuple, ?_⟩ | refine ⟨_, VL.IsI.non_list, ?_⟩ | refine ⟨_, VL.IsI.non_str, ?_⟩)
local macro_rules | `(tactic| walk_at "V") => `(tactic| (walk_at "w"; (repeat ((first | refine And.intro (by walk_at "vs") ?_ | refine isS_i (by assumption) ?_ | refine Or.inr ?_ | walk_at "isi" | walk_at "eis" | refine ⟨_, rfl, ?_⟩); walk_at "w")); (try walk_at "n")))
set_option hygiene false
local macro_rules | `(tactic| walk_at "vb") => `(tactic| (refine br_i ?_ ?_ <;> intro hbr <;> (try simp only [nb, decide_eq_true_eq, decide_eq_false_iff_not, Bool.not_eq_true, Bool.not_eq_eq_eq_not, Bool.not_true, Bool.not_false, ne_eq, Bool.and_eq_true, Bool.or_eq_true, Bool.and_eq_false_imp, Decidable.not_not, Int.not_lt, Int.not_le, bne_iff_ne, Bool.not_eq_false, Bool.or_eq_false_iff, reduceCtorEq, not_true_eq_false, not_false_eq_true] at hbr)))
set_option hygiene true
local macro_rules | `(tactic| walk_at "le") => `(tactic| exact VL.Le.to rfl (Nat.le_of_ble_eq_true rfl))
local macro_rules | `(tactic| walk_at "d") => `(tactic| dsimp only at *)
local macro_rules | `(tactic| walk_at "n") => `(tactic| dsimp only [VL.env0, VL.slots0, VL.mem0, VL.nones, VL.falses, VL.put_mk, VL.push_mk, VL.set_mk, VL.unset_mk, VL.wipe_nl, VL.wipe_cs, VL.el_mk, VL.frs_nl, VL.frs_cs, VL.fr_mk, VL.frX, VL.frSl, VL.nth, Nat.reduceAdd, Nat.reduceSub, Nat.reduceMul, Nat.reduceBEq, List.set, List.length_cons, List.length_nil, List.cons_append, List.nil_append, VL.qI, VL.qT, VL.qR])
local macro_rules | `(tactic| walk_at "cls") => `(tactic| first | exact T_cl_Stay (by assumption))
local macro_rules | `(tactic| walk_at "noat") => `(tactic| first | exact Txt.no_Stay_come (by assumption) | exact Txt.no_Stay_go (by assumption))
local macro_rules | `(tactic| walk_at "eis") => `(tactic| first | fail)
local macro_rules | `(tactic| walk_at "exm") => `(tactic| first | fail)
local macro_rules | `(tactic| walk_at "xf") => `(tactic| first | exact T_xf_EmptyStay (by assumption) | exact T_xf_OutOfRange (by assumption) | fail)
local macro_rules | `(tactic| walk_at "xe") => `(tactic| first | exact Txt.e_EmptyStay_come (by assumption) | exact Txt.e_EmptyStay_go (by assumption) | exact Txt.e_OutOfRange_value (by assumption) | fail)
local macro_rules | `(tactic| walk_at "isi") => `(tactic| first | refine ⟨_, VL.IsI.mk _ _ (.obj (fun _ _ _ _ e => T_ty_Stay (by assumption) e)) (.cls _) (Txt.zo_Stay_Stay (by assumption)), ?_⟩ | refine ⟨_, VL.IsI.mk _ _ (.obj (fun _ _ _ _ e => T_ty_Stay (by assumption) e)) (.ty _) (Txt.zo_Stay_bool (by assumption)), ?_⟩ | refine ⟨_, VL.IsI.mk _ _ (.obj (fun _ _ _ _ e => T_ty_Stay (by assumption) e)) (.ty _) (Txt.zo_Stay_int (by assumption)), ?_⟩ | refine ⟨_, VL.IsI.mk _ _ (.obj (fun _ _ _ _ e => T_ty_Stay (by assumption) e)) (.ty _) (Txt.zo_Stay_str (by assumption)), ?_⟩ | refine ⟨_, VL.IsI.mk _ _ (.obj (fun _ _ _ _ e => T_ty_Stay (by assumption) e)) (.ty _) (Txt.zo_Stay_tuple (by assumption)), ?_⟩)
local macro_rules | `(tactic| walk_at "vs") => `(tactic| exact Txt.nit (by assumption))
section
variable {P : Program} {w : World} {K : PySem.W.Frag} {mg : Str → Option Value} {base : Heap} {D : Ad}
/-- the box of draws -/
def Bx (t : T) : Prop := ∃ (cs : List Int) (i big st : Int), t = .lst [.lst (cs.map T.int), .int i, .int big, .int st] ∧ 0 ≤ i ∧ 0 ≤ big
def spDraws : VSp := fun ts Q _ => ∃ ns : List Int, ts = [.scr (ns.map T.int)] ∧ ns.length ≤ 63 ∧ ∀ bx, Bx bx → Q (.new bx) []
theorem sc__law_draws : FnScope ["_law_script", "_law_cell", "_law_cells", "_law_state"] ["_law_script"] (defScope s__law_draws) := ⟨rfl, rfl, rfl, by decide +kernel, rfl, by decide +kernel, by decide +kernel⟩
theorem ok__law_draws (T : Txt K mg D) : FnOk P w K mg base CX0 1 D.a__law_draws D.d__law_draws ["_law_script"] (vsp K [false] spDraws) := by
  refine VL.okV T.F__law_draws sc__law_draws rfl (by decide) (fun cdv A outer s H E hr => have hu := VL.huR hr; ⟨_, (pss_cons (ps_setLc (i := 2) (own := [("_law_cell", 1)]) (g := gName 1) (tt := tYes) (by rfl) sc__law_draws.nd rfl rfl (sw_true rfl rfl rfl (by decide +kernel)) (VL.pi_dyn (pe_slice VL.sl_any (pv 0) po_none (po_some pe_int))) (blkOk_by (own := [("_law_cell", 1)]) (N := ["_law_script", "_law_cell", "_law_cells", "_law_state"]) (sc := defScope s__law_draws) (by decide +kernel)) (fun _ _ _ _ _ => (pg_name (i := 1) sc__law_draws.nd rfl (Or.inl rfl))) (fun _ _ _ _ _ => pts_nil) (fun _ _ _ _ _ => (pe_callTy VL.call_intU (by rfl) T.n_int (by decide +kernel) (pa_cons (pv 1) pa_nil))))
      (pss_cons (ps_set (i := 3) sc__law_draws.nd rfl (Or.inl rfl) pe_int)
      (pss_cons (ps_for PassesOwn.never rfl (VL.pi_dyn (pv 2)) (pg_name (i := 1) sc__law_draws.nd rfl (Or.inl rfl))
      (pss_one (ps_set (i := 3) sc__law_draws.nd rfl (Or.inl rfl) (pe_op op_mod (pe_callTy VL.call_intU (by rfl) T.n_int (by decide +kernel) (pa_cons (pe_op VL.op_addU (pe_op VL.op_addU (pe_op VL.op_mulU (pv 3) pe_int) (pe_op VL.op_mulU (pv 1) pe_int)) pe_int) pa_nil)) pe_int))))
      (pss_one (ps_ret (pe_lst (pa_cons (pv 2) (pa_cons pe_int (pa_cons pe_int (pa_cons (pv 3) pa_nil)))))))))), ?_⟩)
  apply VL.wvI
  · intro B; walk_at "vi"
  · intro ts Qv Xv h
    obtain ⟨ns, rfl, h63, k⟩ := h
    walk_at "V"
    rw [cutT_loM VL.T.int ns (by decide)]
    have tl := List.length_take_le (Int.toNat 63) ns
    refine lc_map (xs := ns.take (Int.toNat 63)) (f := VL.T.int) VL.T.int (fun i x out hx hl => ?_) ?_
    · walk_at "V"
      exact NL.mk _ (by walk_at "le") rfl
    generalize ns.take (Int.toNat 63) = cs at *
    walk_at "V"
    refine for_mapF (β := Int) (xs := cs) (f := VL.T.int) (fun γ s => γ.set 3 (.val (.int s))) (fun _ _ => True) (Nx.mk 0 (by walk_at "le") trivial) ?_ ?_
    · rintro i x s hx _
      walk_at "V"
      exact Nx.mk _ (by walk_at "le") trivial
    · rintro s _
      walk_at "V"
      exact k _ ⟨cs, 0, 0, s, rfl, by omega, by omega⟩
def spTake : VSp := fun ts Q _ => ∃ (bx : T) (n : Int), ts = [bx, .int n] ∧ Bx bx ∧ 0 < n ∧ n < 2 ^ 63 ∧ ∀ r bx', 0 ≤ r → r < n → Bx bx' → Q (.val (.int r)) [bx']
theorem sc__law_take : FnScope ["_law_box", "_law_limit", "_law_cell", "_law_digit", "_law_twice"] ["_law_box", "_law_limit"] (defScope s__law_take) := ⟨rfl, rfl, rfl, by decide +kernel, rfl, by decide +kernel, by decide +kernel⟩
theorem ok__law_take (T : Txt K mg D) : FnOk P w K mg base CX0 1 D.a__law_take D.d__law_take ["_law_box", "_law_limit"] (vsp K [true, false] spTake) := by
  refine VL.okV T.F__law_take sc__law_take rfl (by decide) (fun cdv A outer s H E hr => have hu := VL.huR hr; ⟨_, (pss_cons (ps_set (i := 2) sc__law_take.nd rfl (Or.inl rfl) pe_int)
      (Evl.pss_cut (ps_if (PW.pt (pw_and (pt_cmpR (op_eqD (VL.hu64 hu)) (pe_ix ix_seq (pv 0) pe_int (fun _ _ => rfl)) pe_int (nomark _)) (pw_and1 (pt_cmpR op_lt (pe_ix ix_seq (pv 0) pe_int (fun _ _ => rfl)) (pe_callB VL.call_lenU (by rfl) T.n_len (by decide +kernel) (pa_cons (pe_ix ix_seq (pv 0) pe_int (fun _ _ => rfl)) pa_nil)) (nomark _)))))
      (pss_cons (ps_set (i := 2) sc__law_take.nd rfl (Or.inl rfl) (pe_ix ix_seq (pe_ix ix_seq (pv 0) pe_int (fun _ _ => rfl)) (pe_ix ix_seq (pv 0) pe_int (fun _ _ => rfl)) (fun _ _ => rfl)))
      (pss_one (ps_asg (pe_op VL.op_addU (pe_ix ix_seq (pv 0) pe_int (fun _ _ => rfl)) pe_int) (pg_sub (pv 0) pe_int set_list))))
      pss_nil)
      (Evl.pss_cut (ps_if (PW.pt (pw_and (pt_cmpR (op_eqD (VL.hu64 hu)) (pe_ix ix_seq (pv 0) pe_int (fun _ _ => rfl)) pe_int (nomark _)) (pw_and1 (pt_cmpR op_ge (pv 2) (pe_op op_pow pe_int pe_int) (nomark _)))))
      (pss_one (ps_asg (pv 2) (pg_sub (pv 0) pe_int set_list)))
      pss_nil)
      (pss_cons (ps_if (pt_cmpR op_gt (pe_ix ix_seq (pv 0) pe_int (fun _ _ => rfl)) pe_int (nomark _))
      (pss_cons (ps_set (i := 3) sc__law_take.nd rfl (Or.inl rfl) (pe_op op_mod (pe_callTy VL.call_intU (by rfl) T.n_int (by decide +kernel) (pa_cons (pe_ix ix_seq (pv 0) pe_int (fun _ _ => rfl)) pa_nil)) (pv 1)))
      (pss_cons (ps_asg (pe_op op_fdivW (pe_ix ix_seq (pv 0) pe_int (fun _ _ => rfl)) (pv 1)) (pg_sub (pv 0) pe_int set_list))
      (pss_one (ps_ret (pv 3)))))
      pss_nil)
      (pss_cons (ps_asg (pe_op op_mod (pe_callTy VL.call_intU (by rfl) T.n_int (by decide +kernel) (pa_cons (pe_op VL.op_addU (pe_op VL.op_mulU (pe_ix ix_seq (pv 0) pe_int (fun _ _ => rfl)) pe_int) (pe_op VL.op_mulU (pv 2) pe_int)) pa_nil)) pe_int) (pg_sub (pv 0) pe_int set_list))
      (pss_cons (ps_set (i := 4) sc__law_take.nd rfl (Or.inl rfl) (pe_op op_mod (pe_callTy VL.call_intU (by rfl) T.n_int (by decide +kernel) (pa_cons (pe_op VL.op_addU (pe_op VL.op_mulU (pe_ix ix_seq (pv 0) pe_int (fun _ _ => rfl)) (pe_ix ix_seq (pv 0) pe_int (fun _ _ => rfl))) (pe_op VL.op_mulU (pe_ix ix_seq (pv 0) pe_int (fun _ _ => rfl)) pe_int)) pa_nil)) pe_int))
      (pss_one (ps_ret (pe_op op_mod (pe_op op_fdivW (pv 4) pe_int) (pv 1)))))))))), ?_⟩)
  apply VL.wvI
  · intro B; walk_at "vi"
  · intro ts Qv Xv h
    obtain ⟨bx, n, rfl, hB, hn, hn2, k⟩ := h
    obtain ⟨cs, i, big, st, rfl, hi, hbig⟩ := hB
    walk_at "V"
    refine cut_st (β := VL.T × Int) (fun s => ⟨1, [qR 0, qI n, qI s.2, none, none], [.mu s.1]⟩) (fun s => ∃ i', s.1 = .lst [.lst (cs.map VL.T.int), .int i', .int big, .int st] ∧ 0 ≤ i') ?_ ?_
    · walk_at "V"
      by_cases hb : big = 0
      · rw [decide_eq_true hb]
        walk_at "V"
        rw [List.length_map]
        walk_at "vb"
        · obtain ⟨z, hz, e⟩ := at_map (f := VL.T.int) (xs := cs) (i := i) hi hbr
          walk_at "V"
          exact Nx.mk (_, _) (by walk_at "le") ⟨_, rfl, by omega⟩
        · exact Nx.mk (_, _) (by walk_at "le") ⟨_, rfl, by omega⟩
      · rw [decide_eq_false hb]
        walk_at "V"
        exact Nx.mk (_, _) (by walk_at "le") ⟨_, rfl, hi⟩
    rintro ⟨b1, cell⟩ ⟨i1, e1, hi1⟩
    walk_at "d"
    subst e1
    refine cut_st (β := VL.T) (fun s => ⟨1, [qR 0, qI n, qI cell, none, none], [.mu s]⟩) (fun s => ∃ big', s = .lst [.lst (cs.map VL.T.int), .int i1, .int big', .int st] ∧ 0 ≤ big') ?_ ?_
    · walk_at "V"
      by_cases hb : big = 0
      · rw [decide_eq_true hb]
        walk_at "V"
        walk_at "vb"
        · walk_at "V"
          exact Nx.mk _ (by walk_at "le") ⟨_, rfl, Int.le_trans (show (0 : Int) ≤ 10 ^ Int.toNat 18 by decide) hbr⟩
        · exact Nx.mk _ (by walk_at "le") ⟨_, rfl, by omega⟩
      · rw [decide_eq_false hb]
        walk_at "V"
        exact Nx.mk _ (by walk_at "le") ⟨_, rfl, hbig⟩
    rintro _ ⟨big1, rfl, hbig1⟩
    walk_at "V"
    walk_at "vb"
    · walk_at "V"
      exact k _ _ (Int.emod_nonneg _ (by omega)) (Int.emod_lt_of_pos _ hn) ⟨cs, i1, big1 / n, _, rfl, hi1, Int.ediv_nonneg hbig1 (by omega)⟩
    · walk_at "V"
      exact k _ _ (Int.emod_nonneg _ (by omega)) (Int.emod_lt_of_pos _ hn) ⟨cs, i1, big1, _, rfl, hi1, hbig1⟩
def spNum : VSpF := fun ts Q => ∃ x y : Int, ts = [.int x, .int y] ∧ Q (.bl (decide (x = y)))
theorem sc__law_number : FnScope ["_law_actual", "_law_due"] ["_law_actual", "_law_due"] (defScope s__law_number) := ⟨rfl, rfl, rfl, by decide +kernel, rfl, by decide +kernel, by decide +kernel⟩
theorem okv__law_number (T : Txt K mg D) : FnOk P w K mg base CX0 1 D.a__law_number D.d__law_number ["_law_actual", "_law_due"] (vsp K (VL.falses 2) (VL.ofF spNum)) := by
  refine VL.okV T.F__law_number sc__law_number rfl (by decide) (fun cdv A outer s H E hr => have hu := VL.huR hr; ⟨_, (pss_one (ps_ret (pe_and (pe_callB call_isi (by rfl) T.n_isinstance (by decide +kernel) (pa_cons (pv 0) (pa_cons (pe_bltn (v := .ty "int") (u := .type "int") (by rfl) T.n_int (by decide +kernel) rfl) pa_nil))) (pe_and (pe_not (pe_callB call_isi (by rfl) T.n_isinstance (by decide +kernel) (pa_cons (pv 0) (pa_cons (pe_bltn (v := .ty "bool") (u := .type "bool") (by rfl) T.n_bool (by decide +kernel) rfl) pa_nil)))) (pe_one (pe_cmpR (op_eqD (VL.hu64 hu)) (pv 0) (pv 1) (nomark _))))))), ?_⟩)
  apply VL.wvI
  · intro B; walk_at "vi"
  · intro ts Qv Xv h
    obtain ⟨Q0, ⟨x, y, rfl, k⟩, kq⟩ := h
    walk_at "V"
    exact kq _ rfl k
theorem ok__law_number (T : Txt K mg D) : FnOk P w K mg base CX0 1 D.a__law_number D.d__law_number ["_law_actual", "_law_due"] (vspF K spNum) := VL.okF (okv__law_number T) (fun ts Q h => by obtain ⟨x, y, rfl, _⟩ := h; rfl)
end
end Toy
set_option Elab.async false
set_option linter.all false
set_option maxRecDepth 100000
set_option maxHeartbeats 4000000
set_option synthInstance.maxSize 1000000
set_option synthInstance.maxHeartbeats 4000000
namespace Toy
open PySem L2 XR VL
local macro_rules | `(tactic| walk_at "ne") => `(tactic| first | assumption | (apply Ne.symm; assumption) | exact XR.ne_fresh (by assumption) (by walk_at "hp") | exact Ne.symm (XR.ne_fresh (by assumption) (by walk_at "hp")))
local macro_rules | `(tactic| walk_at "hp") => `(tactic| first | assumption | exact upd_same | (refine Eq.trans (upd_ne ?_) ?_; (walk_at "ne"); walk_at "hp"))
local macro_rules | `(tactic| walk_at "sq") => `(tactic| first | walk_at "hp" | exact SqL.of (by walk_at "hp") | exact SqT.of (by walk_at "hp") | exact XR.SqT.same (by assumption) (by assumption) | exact XR.SqL.same (by assumption) (by assumption))
local macro_rules | `(tactic| walk_at "br") => `(tactic| (refine ite2 ?_ ?_ <;> intro hbr <;> (try simp only [decide_eq_true_eq, decide_eq_false_iff_not, V.int.injEq, V.bl.injEq, V.str.injEq, Bool.not_eq_true, Bool.not_eq_eq_eq_not, Bool.not_true, Bool.not_false, ne_eq, Int.reduceToNat, Int.reducePow, Int.reduceMul, Int.reduceAdd, Int.reduceSub, reduceCtorEq, not_true_eq_false, not_false_eq_true, Int.not_lt, Int.not_le] at hbr)))
local macro_rules | `(tactic| walk_at "side") => `(tactic| first
  | exact ⟨by decide, by decide, by decide⟩
  | exact .inl ⟨by decide, by decide⟩
  | exact .inr ⟨by decide, by decide⟩
  | exact XR.divw (by first | decide | omega) (by first | decide | omega)
  | (show (_ : Int) = _; first | rfl | omega)
  | (show (0 : Int) < _; first | decide | assumption | omega)
  | exact .inl ⟨by omega, by omega⟩
  | exact .inr ⟨by omega, by omega⟩
  | exact .inl (XR.cmul_mod (by decide))
  | exact XR.log_lt (by omega) (by omega)
  | decide
  | (rw [sizeLine_eq]; simp; done)
  | (show 2 ≤ sizeLine; decide) | (show 3 ≤ sizeLine; decide) | (show 4 ≤ sizeLine; decide) | (show 5 ≤ sizeLine; decide) | (show 6 ≤ sizeLine; decide) | (show 7 ≤ sizeLine; decide) | (show 1 ≤ sizeLine; decide) | (show 8 ≤ sizeLine; decide) | (show 0 ≤ sizeLine; decide))
local macro_rules | `(tactic| walk_at "rd1") => `(tactic| first
  | refine ⟨_, rfl, ?_⟩
  | refine ⟨_, _, rfl, rfl, ?_⟩
  | refine ⟨_, _, _, _, rfl, rfl, (by walk_at "sq"), rfl, ?_⟩
  | refine ⟨_, _, _, _, rfl, rfl, (by walk_at "hp"), (by walk_at "hp"), (by walk_at "side"), ?_⟩
  | refine ⟨_, _, rfl, .inl (by walk_at "sq"), ?_⟩
  | refine ⟨_, _, rfl, .inl ⟨(by walk_at "sq"), ?_⟩⟩
  | refine ⟨_, _, rfl, .inr (by walk_at "sq"), ?_⟩
  | refine ⟨_, _, _, _, _, rfl, (by walk_at "hp"), (by walk_at "cls"), (by walk_at "noat"), rfl, ?_⟩
  | refine ⟨_, _, _, _, rfl, rfl, (by walk_at "sq"), (by first | assumption | exact XR.at0 | exact XR.at1), ?_⟩
  | refine ⟨rfl, ?_⟩
  | refine And.intro (by walk_at "side") ?_
  | refine .inl ⟨_, rfl, ?_⟩
  | refine And.intro ⟨_, (by walk_at "sq")⟩ ?_
  | refine ⟨_, _, rfl, (by walk_at "sq"), ?_⟩
  | refine ⟨_, _, rfl, ?_⟩
  | refine .inr ⟨_, rfl, (by walk_at "side"), ?_⟩
  | refine ⟨_, _, _, rfl, (by walk_at "hp"), ?_⟩
  | refine iteT ?_
  | refine iteF ?_)
local macro_rules | `(tactic| walk_at "rd") => `(tactic| repeat (walk_at "rd1"))
local macro_rules | `(tactic| walk_at "nn") => `(tactic| (simp only [Int.reduceToNat, Int.reducePow, Int.reduceMul, Int.reduceAdd, Int.reduceSub, Int.reduceNeg]))
local macro_rules | `(tactic| walk_at "dr") => `(tactic| repeat (first | refine And.intro (by first | assumption | walk_at "pre") ?_ | refine And.intro (by first | decide | omega) ?_))
local macro_rules | `(tactic| walk_at "vi") => `(tactic| ((try dsimp only [L2.cxOf, L2.Cx.nox, L2.Cx.wish, L2.Cx.blk, L2.Cx.suite, L2.Cx.tr, L2H.cxH, List.map_cons, List.map_nil]); (try simp only [List.map_cons, List.map_nil]); infer_instance))
local macro_rules | `(tactic| walk_at "w") => `(tactic| conv => whnf)
local macro_rules | `(tactic| walk_at "sz") => `(tactic| first
  | (show _ ≤ sizeLine; rw [sizeLine_eq]; first | decide | omega | (simp; done) | (simp; omega))
  | (show _ < sizeLine; rw [sizeLine_eq]; first | decide | omega | (simp; done) | (simp; omega)))
local macro_rules | `(tactic| walk_at "ok") => `(tactic| first
  | exact encInt.list.ok (by decide) _ | exact encInt.tupl.ok (by decide) _ | exact encStr.list.ok (by decide) _ | exact encStr.tupl.ok (by decide) _
  | exact (encInt.pair encInt).list.ok (by decide) _ | exact (encInt.pair encInt).ok (by decide) _ | exact (encStr.pair encStr).list.ok (by decide) _ | exact (encStr.pair encStr).ok (by decide) _
  | exact encInt.tupl.list.ok (by decide) _)
local macro_rules | `(tactic| walk_at "vs") => `(tactic| first
  | exact trivial
  | assumption
  | exact rfl
  | exact ⟨rfl, rfl⟩
  | walk_at "ok"
  | walk_at "sz"
  | exact .inl (.inr ⟨by decide, by decide⟩)
  | exact .inl (.inl ⟨by first | decide | omega, by first | decide | omega⟩)
  | exact .inl (.inr ⟨by first | decide | omega, by first | decide | omega⟩)
  | exact XR.divw (by first | decide | omega) (by first | decide | omega)
  | (show (0 : Int) < _; first | decide | omega)
  | exact ⟨by first | decide | omega, by first | decide | omega⟩
  | exact ⟨by first | decide | omega, by first | decide | omega, by first | decide | omega⟩
  | exact ⟨by walk_at "sz", by omega, by omega⟩
  | exact ⟨by walk_at "cls", by walk_at "noat"⟩
  | exact ⟨by walk_at "xf", by walk_at "xe"⟩
  | walk_at "exm"
  | decide
  | exact XR.log_lt (by omega) (by omega)
  | ((try dsimp only); (try simp only [List.length_map, List.length_append, List.length_cons, List.length_nil, List.length_eraseIdx]); omega))
local macro_rules | `(tactic| walk_at "v") => `(tactic| (walk_at "w"; (repeat ((first | refine And.intro (by walk_at "vs") ?_ | refine isS_i (by assumption) ?_); walk_at "w")); (try walk_at "n")))
local macro_rules | `(tactic| walk_at "isi") => `(tactic| first | refine ⟨_, VL.IsI.int_int _, ?_⟩ | refine ⟨_, VL.IsI.int_bool _, ?_⟩ | refine ⟨_, VL.IsI.int_str _, ?_⟩ | refine ⟨_, VL.IsI.int_list _, ?_⟩ | refine ⟨_, VL.IsI.int_tuple _, ?_⟩ | refine ⟨_, VL.IsI.bl_int _, ?_⟩ | refine ⟨_, VL.IsI.bl_bool _, ?_⟩ | refine ⟨_, VL.IsI.bl_str _, ?_⟩ | refine ⟨_, VL.IsI.str_str _, ?_⟩ | refine ⟨_, VL.IsI.str_int _, ?_⟩ | refine ⟨_, VL.IsI.str_bool _, ?_⟩ | refine ⟨_, VL.IsI.lst_list _, ?_⟩ | refine ⟨_, VL.IsI.lst_tuple _, ?_⟩ | refine ⟨_, VL.IsI.tup_list _, ?_⟩ | refine ⟨_, VL.IsI.tup_tuple _, ?_⟩ | refine ⟨_, VL.IsI.tup_str _, ?_⟩ | refine ⟨_, VL.IsI.tup_int _, ?_⟩ | refine ⟨_, VL.IsI.dk_dict _, ?_⟩ | refine ⟨_, VL.IsI.non_int, ?_⟩ | refine ⟨_, VL.IsI.non_tuple, ?_⟩ | refine ⟨_, VL.IsI.non_list, ?_⟩ | refine ⟨_, VL.IsI.non_str, ?_⟩)
local macro_rules | `(tactic| walk_at "V") => `(tactic| (walk_at "w"; (repeat ((first | refine And.intro (by walk_at "vs") ?_ | refine isS_i (by assumption) ?_ | refine Or.inr ?_ | walk_at "isi" | walk_at "eis" | refine ⟨_, rfl, ?_⟩); walk_at "w")); (try walk_at "n")))
set_option hygiene false
local macro_rules | `(tactic| walk_at "vb") => `(tactic| (refine br_i ?_ ?_ <;> intro hbr <;> (try simp only [nb, decide_eq_true_eq, decide_eq_false_iff_not, Bool.not_eq_true, Bool.not_eq_eq_eq_not, Bool.not_true, Bool.not_false, ne_eq, Bool.and_eq_true, Bool.or_eq_true, Bool.and_eq_false_imp, Decidable.not_not, Int.not_lt, Int.not_le, bne_iff_ne, Bool.not_eq_false, Bool.or_eq_false_iff, reduceCtorEq, not_true_eq_false, not_false_eq_true] at hbr)))
set_option hygiene true
local macro_rules | `(tactic| walk_at "le") => `(tactic| exact VL.Le.to rfl (Nat.le_of_ble_eq_true rfl))
local macro_rules | `(tactic| walk_at "d") => `(tactic| dsimp only at *)
local macro_rules | `(tactic| walk_at "n") => `(tactic| dsimp only [VL.env0, VL.slots0, VL.mem0, VL.nones, VL.falses, VL.put_mk, VL.push_mk, VL.set_mk, VL.unset_mk, VL.wipe_nl, VL.wipe_cs, VL.el_mk, VL.frs_nl, VL.frs_cs, VL.fr_mk, VL.frX, VL.frSl, VL.nth, Nat.reduceAdd, Nat.reduceSub, Nat.reduceMul, Nat.reduceBEq, List.set, List.length_cons, List.length_nil, List.cons_append, List.nil_append, VL.qI, VL.qT, VL.qR])
local macro_rules | `(tactic| walk_at "cls") => `(tactic| first | exact T_cl_Stay (by assumption))
local macro_rules | `(tactic| walk_at "noat") => `(tactic| first | exact Txt.no_Stay_come (by assumption) | exact Txt.no_Stay_go (by assumption))
local macro_rules | `(tactic| walk_at "eis") => `(tactic| first | fail)
local macro_rules | `(tactic| walk_at "exm") => `(tactic| first | fail)
local macro_rules | `(tactic| walk_at "xf") => `(tactic| first | exact T_xf_EmptyStay (by assumption) | exact T_xf_OutOfRange (by assumption) | fail)
local macro_rules | `(tactic| walk_at "xe") => `(tactic| first | exact Txt.e_EmptyStay_come (by assumption) | exact Txt.e_EmptyStay_go (by assumption) | exact Txt.e_OutOfRange_value (by assumption) | fail)
local macro_rules | `(tactic| walk_at "isi") => `(tactic| first | refine ⟨_, VL.IsI.mk _ _ (.obj (fun _ _ _ _ e => T_ty_Stay (by assumption) e)) (.cls _) (Txt.zo_Stay_Stay (by assumption)), ?_⟩ | refine ⟨_, VL.IsI.mk _ _ (.obj (fun _ _ _ _ e => T_ty_Stay (by assumption) e)) (.ty _) (Txt.zo_Stay_bool (by assumption)), ?_⟩ | refine ⟨_, VL.IsI.mk _ _ (.obj (fun _ _ _ _ e => T_ty_Stay (by assumption) e)) (.ty _) (Txt.zo_Stay_int (by assumption)), ?_⟩ | refine ⟨_, VL.IsI.mk _ _ (.obj (fun _ _ _ _ e => T_ty_Stay (by assumption) e)) (.ty _) (Txt.zo_Stay_str (by assumption)), ?_⟩ | refine ⟨_, VL.IsI.mk _ _ (.obj (fun _ _ _ _ e => T_ty_Stay (by assumption) e)) (.ty _) (Txt.zo_Stay_tuple (by assumption)), ?_⟩)
local macro_rules | `(tactic| walk_at "vs") => `(tactic| exact Txt.nit (by assumption))
section
variable {P : Program} {w : World} {K : PySem.W.Frag} {mg : Str → Option Value} {base : Heap} {D : Ad}
def tN (p : Int × Bool) : T := .tup [.int p.1, .bl p.2]
theorem encN : Enc tN 1 := encInt.pair encBl
/-- notes: days from 0 to last -/
structure NOk (last : Int) (ns : List (Int × Bool)) : Prop where
  dr : ∀ p ∈ ns, 0 ≤ p.1 ∧ p.1 ≤ last
  ln : ns.length ≤ 300
theorem snocN {last : Int} {ns : List (Int × Bool)} {p : Int × Bool} (h : ∀ q ∈ ns, 0 ≤ q.1 ∧ q.1 ≤ last) (k : 0 ≤ p.1 ∧ p.1 ≤ last) : ∀ q ∈ ns ++ [p], 0 ≤ q.1 ∧ q.1 ≤ last := fun q hq => by
  rcases List.mem_append.mp hq with w | w
  · exact h q w
  · rw [List.mem_singleton.mp w]; exact k
def spTrue : VSp := fun vs Q _ => ∃ (bx : T) (l lo hi m : Int), vs = [bx, .int l, .int lo, .int hi, .int m] ∧ Bx bx ∧ 0 ≤ l ∧ l ≤ 60 ∧ 0 ≤ m ∧ m ≤ 6 ∧ ∀ (ns : List (Int × Bool)) bx', (∀ q ∈ ns, 0 ≤ q.1 ∧ q.1 ≤ l) → ns.length ≤ 6 → Bx bx' → Q (.new (.lst (ns.map tN))) [bx']
theorem sc__law_true_notes : FnScope ["_law_box", "_law_last", "_law_low", "_law_high", "_law_most", "_law_notes_here", "_law_k", "_law_day"] ["_law_box", "_law_last", "_law_low", "_law_high", "_law_most"] (defScope s__law_true_notes) := ⟨rfl, rfl, rfl, by decide +kernel, rfl, by decide +kernel, by decide +kernel⟩
theorem ok__law_true_notes (T : Txt K mg D) : FnOk P w K mg base CX0 3 D.a__law_true_notes D.d__law_true_notes ["_law_box", "_law_last", "_law_low", "_law_high", "_law_most"] (vsp K [true, false, false, false, false] spTrue) := by
  have G__law_take := ok__law_take (P := P) (w := w) (base := base) T
  refine VL.okV T.F__law_true_notes sc__law_true_notes rfl (by decide) (fun cdv A outer s H E hr => have hu := VL.huR hr; ⟨_, (pss_cons (ps_set (i := 5) sc__law_true_notes.nd rfl (Or.inl rfl) (pe_lst pa_nil))
      (pss_cons (ps_for PassesOwn.never rfl (pi_range1 (by rfl) T.n_range (pa_cons (pe_call G__law_take (hr.mono (by decide)) (by rfl) T.g__law_take T.F__law_take.kp T.b__law_take .nil pass0 (pa_cons (pv 0) (pa_cons (pe_op VL.op_addU (pv 4) pe_int) pa_nil))) pa_nil)) (pg_name (i := 6) sc__law_true_notes.nd rfl (Or.inl rfl))
      (pss_cons (ps_set (i := 7) sc__law_true_notes.nd rfl (Or.inl rfl) (pe_call G__law_take (hr.mono (by decide)) (by rfl) T.g__law_take T.F__law_take.kp T.b__law_take .nil pass0 (pa_cons (pv 0) (pa_cons (pe_op VL.op_addU (pv 1) pe_int) pa_nil))))
      (pss_one (ps_expr (pe_bm PySem.F.plainAttrs_list PySem.F.slot_list_append PySem.F.type_list_append mt_append (pv 5) (pa_cons (pe_tup (pa_cons (pv 7) (pa_cons (pe_and (pe_cmpR op_le (pv 2) (pv 7) (nomark _)) (pe_one (pe_cmpR op_le (pv 7) (pv 3) (nomark _)))) pa_nil))) pa_nil))))))
      (pss_one (ps_ret (pv 5))))), ?_⟩)
  apply VL.wvI
  · intro B; walk_at "vi"
  · intro ts Qv Xv h
    obtain ⟨bx, l, lo, hi, m, rfl, hB, l0, l6, m0, m6, k⟩ := h
    walk_at "V"
    refine ⟨_, _, rfl, hB, by omega, by omega, fun n b1 n0 n1 B1 => ?_⟩
    walk_at "V"
    refine for_rngF (β := VL.T × List (Int × Bool)) (fun γ s => (γ.put 0 (.mu s.1)).put 1 (.mu (.lst (s.2.map tN)))) (fun i s => Bx s.1 ∧ s.2.length = i ∧ ∀ q ∈ s.2, 0 ≤ q.1 ∧ q.1 ≤ l) (Nx.mk (_, []) (by walk_at "le") ⟨B1, rfl, (by intro q hq; cases hq)⟩) ?_ ?_
    · rintro i ⟨b2, ns⟩ hi ⟨B2, nl, no⟩
      walk_at "d"
      have nl : ns.length = i := nl
      walk_at "V"
      refine ⟨_, _, rfl, B2, by omega, by omega, fun d b3 d0 d1 B3 => ?_⟩
      walk_at "V"
      have fin : ∀ b, ∀ q ∈ ns ++ [(d, b)], 0 ≤ q.1 ∧ q.1 ≤ l := fun b => snocN no ⟨d0, by omega⟩
      by_cases h1 : lo ≤ d
      · rw [decide_eq_true h1]
        walk_at "V"
        exact Nx.mk (_, ns ++ [(d, _)]) (by rw [List.map_append]; walk_at "le") ⟨B3, by rw [List.length_append, nl]; rfl, fin _⟩
      · rw [decide_eq_false h1]
        walk_at "V"
        exact Nx.mk (_, ns ++ [(d, _)]) (by rw [List.map_append]; walk_at "le") ⟨B3, by rw [List.length_append, nl]; rfl, fin _⟩
    · rintro ⟨b2, ns⟩ ⟨B2, nl, no⟩
      walk_at "d"
      have nl : ns.length = _ := nl
      walk_at "V"
      exact k _ _ no (by omega) B2
def spEmpty : VSp := fun vs Q _ => ∃ (bx : T) (l : Int), vs = [bx, .int l] ∧ Bx bx ∧ 0 ≤ l ∧ l ≤ 60 ∧ ∀ (ns : List (Int × Bool)) bx', (∀ q ∈ ns, 0 ≤ q.1 ∧ q.1 ≤ l) → ns.length ≤ 61 → Bx bx' → Q (.new (.lst (ns.map tN))) [bx']
theorem sc__law_empty_days : FnScope ["_law_box", "_law_last", "_law_notes_here", "_law_left_out", "_law_day"] ["_law_box", "_law_last"] (defScope s__law_empty_days) := ⟨rfl, rfl, rfl, by decide +kernel, rfl, by decide +kernel, by decide +kernel⟩
theorem ok__law_empty_days (T : Txt K mg D) : FnOk P w K mg base CX0 3 D.a__law_empty_days D.d__law_empty_days ["_law_box", "_law_last"] (vsp K [true, false] spEmpty) := by
  have G__law_take := ok__law_take (P := P) (w := w) (base := base) T
  refine VL.okV T.F__law_empty_days sc__law_empty_days rfl (by decide) (fun cdv A outer s H E hr => have hu := VL.huR hr; ⟨_, (pss_cons (ps_set (i := 2) sc__law_empty_days.nd rfl (Or.inl rfl) (pe_lst pa_nil))
      (pss_cons (ps_set (i := 3) sc__law_empty_days.nd rfl (Or.inl rfl) (pe_call G__law_take (hr.mono (by decide)) (by rfl) T.g__law_take T.F__law_take.kp T.b__law_take .nil pass0 (pa_cons (pv 0) (pa_cons (pe_op VL.op_mulU pe_int (pe_op VL.op_addU (pv 1) pe_int)) pa_nil))))
      (pss_cons (ps_for PassesOwn.never rfl (pi_range1 (by rfl) T.n_range (pa_cons (pe_op VL.op_addU (pv 1) pe_int) pa_nil)) (pg_name (i := 4) sc__law_empty_days.nd rfl (Or.inl rfl))
      (pss_one (ps_if (pt_cmpR (op_neD (VL.hu64 hu)) (pv 4) (pv 3) (nomark _))
      (pss_one (ps_expr (pe_bm PySem.F.plainAttrs_list PySem.F.slot_list_insert PySem.F.type_list_insert VL.mt_insertU (pv 2) (pa_cons (pe_call G__law_take (hr.mono (by decide)) (by rfl) T.g__law_take T.F__law_take.kp T.b__law_take .nil pass0 (pa_cons (pv 0) (pa_cons (pe_op VL.op_addU (pe_callB VL.call_lenU (by rfl) T.n_len (by decide +kernel) (pa_cons (pv 2) pa_nil)) pe_int) pa_nil))) (pa_cons (pe_tup (pa_cons (pv 4) (pa_cons pe_bl pa_nil))) pa_nil)))))
      pss_nil)))
      (pss_one (ps_ret (pv 2)))))), ?_⟩)
  apply VL.wvI
  · intro B; walk_at "vi"
  · intro ts Qv Xv h
    obtain ⟨bx, l, rfl, hB, l0, l6, k⟩ := h
    walk_at "V"
    refine ⟨_, _, rfl, hB, by omega, by omega, fun n b1 n0 n1 B1 => ?_⟩
    walk_at "V"
    refine for_rngF (β := VL.T × List (Int × Bool)) (fun γ s => (γ.put 0 (.mu s.1)).put 1 (.mu (.lst (s.2.map tN)))) (fun i s => Bx s.1 ∧ s.2.length ≤ i ∧ ∀ q ∈ s.2, 0 ≤ q.1 ∧ q.1 ≤ l) (Nx.mk (_, []) (by walk_at "le") ⟨B1, Nat.le_refl _, (by intro q hq; cases hq)⟩) ?_ ?_
    · rintro i ⟨b2, ns⟩ hi ⟨B2, nl, no⟩
      walk_at "d"
      have nl : ns.length ≤ i := nl
      walk_at "V"
      walk_at "vb"
      · walk_at "V"
        rw [List.length_map]
        refine ⟨_, _, rfl, B2, by omega, by omega, fun d b3 d0 d1 B3 => ?_⟩
        walk_at "V"
        refine Nx.mk (_, ns.take d.toNat ++ [(0 + (i : Int), false)] ++ ns.drop d.toNat) (by rw [List.map_append, List.map_append, List.map_take, List.map_drop]; walk_at "le") ⟨B3, ?_, ?_⟩
        · show (ns.take d.toNat ++ [(0 + (i : Int), false)] ++ ns.drop d.toNat).length ≤ i + 1
          rw [List.length_append, List.length_append, List.length_take, List.length_drop, List.length_singleton]
          omega
        · intro q hq
          rcases List.mem_append.mp hq with h | h
          · exact snocN (fun q hq => no q (List.mem_of_mem_take hq)) ⟨by show 0 ≤ 0 + (i : Int); omega, by show 0 + (i : Int) ≤ l; omega⟩ q h
          · exact no q (List.mem_of_mem_drop h)
      · exact Nx.mk (_, ns) (by walk_at "le") ⟨B2, Nat.le_succ_of_le nl, no⟩
    · rintro ⟨b2, ns⟩ ⟨B2, nl, no⟩
      walk_at "d"
      have nl : ns.length ≤ _ := nl
      walk_at "V"
      exact k _ _ no (by omega) B2
def spNotes : VSp := fun vs Q _ => ∃ (bx : T) (l lo hi : Int), vs = [bx, .int l, .int lo, .int hi] ∧ Bx bx ∧ 0 ≤ l ∧ l ≤ 60 ∧ ∀ (ns : List (Int × Bool)) bx', (∀ q ∈ ns, 0 ≤ q.1 ∧ q.1 ≤ l) → ns.length ≤ 70 → Bx bx' → Q (.new (.lst (ns.map tN))) [bx']
theorem sc__law_notes : FnScope ["_law_box", "_law_last", "_law_low", "_law_high", "_law_way", "_law_notes_here", "_law_at", "_law_note"] ["_law_box", "_law_last", "_law_low", "_law_high"] (defScope s__law_notes) := ⟨rfl, rfl, rfl, by decide +kernel, rfl, by decide +kernel, by decide +kernel⟩
theorem ok__law_notes (T : Txt K mg D) : FnOk P w K mg base CX0 5 D.a__law_notes D.d__law_notes ["_law_box", "_law_last", "_law_low", "_law_high"] (vsp K [true, false, false, false] spNotes) := by
  have G__law_take := ok__law_take (P := P) (w := w) (base := base) T
  have G__law_true_notes := ok__law_true_notes (P := P) (w := w) (base := base) T
  have G__law_empty_days := ok__law_empty_days (P := P) (w := w) (base := base) T
  refine VL.okV T.F__law_notes sc__law_notes rfl (by decide) (fun cdv A outer s H E hr => have hu := VL.huR hr; ⟨_, (pss_cons (ps_set (i := 4) sc__law_notes.nd rfl (Or.inl rfl) (pe_call G__law_take (hr.mono (by decide)) (by rfl) T.g__law_take T.F__law_take.kp T.b__law_take .nil pass0 (pa_cons (pv 0) (pa_cons pe_int pa_nil))))
      (pss_cons (ps_if (pt_cmpR (op_eqD (VL.hu64 hu)) (pv 4) pe_int (nomark _))
      (pss_one (ps_ret (pe_op VL.op_addU (pe_call G__law_empty_days (hr.mono (by decide)) (by rfl) T.g__law_empty_days T.F__law_empty_days.kp T.b__law_empty_days .nil pass0 (pa_cons (pv 0) (pa_cons (pv 1) pa_nil))) (pe_call G__law_true_notes (hr.mono (by decide)) (by rfl) T.g__law_true_notes T.F__law_true_notes.kp T.b__law_true_notes .nil pass0 (pa_cons (pv 0) (pa_cons (pv 1) (pa_cons (pv 2) (pa_cons (pv 3) (pa_cons pe_int pa_nil)))))))))
      pss_nil)
      (pss_cons (ps_set (i := 5) sc__law_notes.nd rfl (Or.inl rfl) (pe_call G__law_true_notes (hr.mono (by decide)) (by rfl) T.g__law_true_notes T.F__law_true_notes.kp T.b__law_true_notes .nil pass0 (pa_cons (pv 0) (pa_cons (pv 1) (pa_cons (pv 2) (pa_cons (pv 3) (pa_cons pe_int pa_nil)))))))
      (pss_cons (ps_if (PW.pt (pw_and (pt_cmpR (op_eqD (VL.hu64 hu)) (pv 4) pe_int (nomark _)) (pw_and1 (pt_cmpR (op_neD (VL.hu64 hu)) (pv 5) (pe_lst pa_nil) (nomark _)))))
      (pss_cons (ps_set (i := 6) sc__law_notes.nd rfl (Or.inl rfl) (pe_call G__law_take (hr.mono (by decide)) (by rfl) T.g__law_take T.F__law_take.kp T.b__law_take .nil pass0 (pa_cons (pv 0) (pa_cons (pe_callB VL.call_lenU (by rfl) T.n_len (by decide +kernel) (pa_cons (pv 5) pa_nil)) pa_nil))))
      (pss_one (ps_asg (pe_tup (pa_cons (pe_ix ix_seq (pe_ix ix_seq (pv 5) (pv 6) (fun _ _ => rfl)) pe_int (fun _ _ => rfl)) (pa_cons (pe_not (pe_ix ix_seq (pe_ix ix_seq (pv 5) (pv 6) (fun _ _ => rfl)) pe_int (fun _ _ => rfl))) pa_nil))) (pg_sub (pv 5) (pv 6) set_list))))
      pss_nil)
      (pss_cons (ps_if (pt_cmpR (op_eqD (VL.hu64 hu)) (pv 4) pe_int (nomark _))
      (pss_one (ps_setLc (i := 5) (own := [("_law_note", 7)]) (g := gName 7) (tt := tYes) (by rfl) sc__law_notes.nd rfl rfl (sw_true rfl rfl rfl (by decide +kernel)) (VL.pi_dynL (pv 5)) (blkOk_by (own := [("_law_note", 7)]) (N := ["_law_box", "_law_last", "_law_low", "_law_high", "_law_way", "_law_notes_here", "_law_at", "_law_note"]) (sc := defScope s__law_notes) (by decide +kernel)) (fun _ _ _ _ _ => (pg_name (i := 7) sc__law_notes.nd rfl (Or.inl rfl))) (fun _ _ _ _ _ => pts_nil) (fun _ _ _ _ _ => (pe_tup (pa_cons (pe_ix (VL.ix_seqK (K := K) rfl) (pv 7) pe_int (fun _ _ => rfl)) (pa_cons (pe_cmpR (VL.op_eqK (K := K) rfl (VL.hu64 hu)) (pe_call G__law_take (hr.mono (by decide)) (by rfl) T.g__law_take T.F__law_take.kp T.b__law_take .nil pass0 (pa_cons (pv 0) (pa_cons pe_int pa_nil))) pe_int (nomark _)) pa_nil))))))
      pss_nil)
      (pss_one (ps_ret (pv 5)))))))), ?_⟩)
  apply VL.wvI
  · intro B; walk_at "vi"
  · intro ts Qv Xv h
    obtain ⟨bx, l, lo, hi, rfl, hB, l0, l6, k⟩ := h
    walk_at "V"
    refine ⟨_, _, rfl, hB, by omega, by omega, fun w b1 n0 n1 B1 => ?_⟩
    walk_at "V"
    walk_at "vb"
    · walk_at "V"
      refine ⟨_, _, rfl, B1, by omega, by omega, fun ns b2 no nl B2 => ?_⟩
      walk_at "V"
      refine ⟨_, _, _, _, _, rfl, B2, by omega, by omega, by omega, by omega, fun ms b3 mo ml B3 => ?_⟩
      walk_at "V"
      rw [← List.map_append]
      refine k _ _ (fun q hq => ?_) (by rw [List.length_append]; omega) B3
      rcases List.mem_append.mp hq with h | h
      · exact no q h
      · exact mo q h
    · walk_at "V"
      refine ⟨_, _, _, _, _, rfl, B1, by omega, by omega, by omega, by omega, fun ns b2 no nl B2 => ?_⟩
      walk_at "V"
      by_cases w1 : w = 1
      · subst w1
        have okn : okD (.lst (ns.map tN)) = true := encN.list.ok (by decide) ns
        walk_at "V"
        walk_at "vb"
        · have ns0 : 0 < ns.length := by
            cases ns with
            | nil => simp at hbr
            | cons _ _ => simp
          walk_at "V"
          rw [List.length_map]
          refine ⟨_, _, rfl, B2, by omega, by omega, fun d b3 d0 d1 B3 => ?_⟩
          obtain ⟨p, hp, e⟩ := at_map (f := tN) (xs := ns) (i := d) d0 d1
          walk_at "V"
          rw [show VL.T.tup [.int p.1, .bl !p.2] = tN (p.1, !p.2) from rfl, set_map d0 d1]
          walk_at "V"
          refine k _ _ (fun q hq => ?_) (by rw [List.length_set]; omega) B3
          rcases List.mem_or_eq_of_mem_set hq with h | h
          · exact no q h
          · rw [h]; exact no p (List.mem_of_getElem? hp)
        · walk_at "V"
          exact k _ _ no (by omega) B2
      rw [decide_eq_false w1]
      walk_at "V"
      by_cases w2 : w = 2
      · subst w2
        walk_at "V"
        refine lc_mapLF (β := VL.T × List (Int × Bool)) (xs := ns) (f := tN) (fun γ s => (γ.put 0 (.mu s.1)).push (.mu (.lst (s.2.map tN)))) (fun i s => Bx s.1 ∧ s.2.length = i ∧ ∀ q ∈ s.2, 0 ≤ q.1 ∧ q.1 ≤ l) (fun _ => rfl) (NLs.mk (_, []) (by walk_at "le") ⟨B2, rfl, (by intro q hq; cases hq)⟩) ?_ ?_
        · rintro i x ⟨b3, ms⟩ hx ⟨B3, ml, mo⟩
          walk_at "d"
          have ml : ms.length = i := ml
          have il := (List.getElem?_eq_some_iff.mp hx).1
          walk_at "V"
          refine ⟨_, _, rfl, B3, by omega, by omega, fun d b4 d0 d1 B4 => ?_⟩
          walk_at "V"
          exact NLs.mk (_, ms ++ [(x.1, decide (d = 1))]) (by rw [List.map_append]; walk_at "le") ⟨B4, by rw [List.length_append, ml]; rfl, snocN mo (no x (List.mem_of_getElem? hx))⟩
        · rintro ⟨b3, ms⟩ ⟨B3, ml, mo⟩
          walk_at "d"
          have ml : ms.length = ns.length := ml
          walk_at "V"
          exact k _ _ mo (by omega) B3
      · rw [decide_eq_false w2]
        walk_at "V"
        exact k _ _ no (by omega) B2
def spFences : VSp := fun vs Q _ => ∃ (bx : T) (l lo hi : Int), vs = [bx, .int l, .int lo, .int hi] ∧ Bx bx ∧ 0 ≤ l ∧ l ≤ 60 ∧ 0 ≤ lo ∧ lo ≤ l ∧ 0 ≤ hi ∧ hi ≤ l ∧ ∀ (ns : List (Int × Bool)) bx', (∀ q ∈ ns, 0 ≤ q.1 ∧ q.1 ≤ l) → ns.length ≤ 63 → Bx bx' → Q (.new (.lst (ns.map tN))) [bx']
theorem sc__law_fences : FnScope ["_law_box", "_law_last", "_law_low", "_law_high", "_law_rest", "_law_room", "_law_notes_here", "_law_day"] ["_law_box", "_law_last", "_law_low", "_law_high"] (defScope s__law_fences) := ⟨rfl, rfl, rfl, by decide +kernel, rfl, by decide +kernel, by decide +kernel⟩
theorem ok__law_fences (T : Txt K mg D) : FnOk P w K mg base CX0 3 D.a__law_fences D.d__law_fences ["_law_box", "_law_last", "_law_low", "_law_high"] (vsp K [true, false, false, false] spFences) := by
  have G__law_take := ok__law_take (P := P) (w := w) (base := base) T
  refine VL.okV T.F__law_fences sc__law_fences rfl (by decide) (fun cdv A outer s H E hr => have hu := VL.huR hr; ⟨_, (pss_cons (ps_set (i := 4) sc__law_fences.nd rfl (Or.inl rfl) (pe_call G__law_take (hr.mono (by decide)) (by rfl) T.g__law_take T.F__law_take.kp T.b__law_take .nil pass0 (pa_cons (pv 0) (pa_cons pe_int pa_nil))))
      (pss_cons (ps_set (i := 5) sc__law_fences.nd rfl (Or.inl rfl) (pe_cmpR (op_eqD (VL.hu64 hu)) (pe_call G__law_take (hr.mono (by decide)) (by rfl) T.g__law_take T.F__law_take.kp T.b__law_take .nil pass0 (pa_cons (pv 0) (pa_cons pe_int pa_nil))) pe_int (nomark _)))
      (pss_cons (ps_set (i := 6) sc__law_fences.nd rfl (Or.inl rfl) (pe_lst pa_nil))
      (pss_cons (ps_for PassesOwn.never rfl (pi_range1 (by rfl) T.n_range (pa_cons (pe_op VL.op_addU (pv 1) pe_int) pa_nil)) (pg_name (i := 7) sc__law_fences.nd rfl (Or.inl rfl))
      (pss_one (ps_if (PW.pt (pw_and (pt_cmpR (op_eqD (VL.hu64 hu)) (pe_op op_mod (pv 7) pe_int) (pv 4) (nomark _)) (pw_and1 (pt_not (PW.pt (pw_and (pt_val (pv 5)) (pw_and (pt_cmpR op_le (pv 2) (pv 7) (nomark _)) (pw_and1 (pt_cmpR op_le (pv 7) (pv 3) (nomark _))))))))))
      (pss_one (ps_expr (pe_bm PySem.F.plainAttrs_list PySem.F.slot_list_append PySem.F.type_list_append mt_append (pv 6) (pa_cons (pe_tup (pa_cons (pv 7) (pa_cons pe_bl pa_nil))) pa_nil))))
      pss_nil)))
      (pss_cons (ps_if (pt_val (pv 5))
      (pss_one (ps_set (i := 6) sc__law_fences.nd rfl (Or.inl rfl) (pe_op VL.op_addU (pv 6) (pe_lst (pa_cons (pe_tup (pa_cons (pv 3) (pa_cons pe_bl pa_nil))) (pa_cons (pe_tup (pa_cons (pv 2) (pa_cons pe_bl pa_nil))) pa_nil))))))
      pss_nil)
      (pss_one (ps_ret (pv 6)))))))), ?_⟩)
  apply VL.wvI
  · intro B; walk_at "vi"
  · intro ts Qv Xv h
    obtain ⟨bx, l, lo, hi, rfl, hB, l0, l6, o0, o1, i0, i1, k⟩ := h
    walk_at "V"
    refine ⟨_, _, rfl, hB, by omega, by omega, fun w b1 n0 n1 B1 => ?_⟩
    walk_at "V"
    refine ⟨_, _, rfl, B1, by omega, by omega, fun rm b2 r0 r1 B2 => ?_⟩
    walk_at "V"
    refine for_rngF (β := List (Int × Bool)) (fun γ s => γ.put 1 (.mu (.lst (s.map tN)))) (fun i s => s.length ≤ i ∧ ∀ q ∈ s, 0 ≤ q.1 ∧ q.1 ≤ l) (Nx.mk [] (by walk_at "le") ⟨Nat.le_refl _, (by intro q hq; cases hq)⟩) ?_ ?_
    · rintro i ns hj ⟨nl, no⟩
      have add : ns.length + 1 ≤ i + 1 ∧ ∀ q ∈ ns ++ [(0 + (i : Int), false)], 0 ≤ q.1 ∧ q.1 ≤ l := ⟨by omega, snocN no ⟨by show 0 ≤ 0 + (i : Int); omega, by show 0 + (i : Int) ≤ l; omega⟩⟩
      walk_at "V"
      by_cases hw : (0 + (i : Int)) % 6 = w
      · rw [decide_eq_true hw]
        walk_at "V"
        have yes : ∀ b : Bool, b = b := fun _ => rfl
        by_cases hr : rm = 1
        · rw [decide_eq_true hr]
          walk_at "V"
          by_cases h1 : lo ≤ 0 + (i : Int)
          · rw [decide_eq_true h1]
            walk_at "V"
            by_cases h2 : 0 + (i : Int) ≤ hi
            · rw [decide_eq_true h2]
              walk_at "V"
              exact Nx.mk ns (by walk_at "le") ⟨Nat.le_succ_of_le nl, no⟩
            · rw [decide_eq_false h2]
              walk_at "V"
              exact Nx.mk (ns ++ [_]) (by rw [List.map_append]; walk_at "le") ⟨by rw [List.length_append]; exact add.1, add.2⟩
          · rw [decide_eq_false h1]
            walk_at "V"
            exact Nx.mk (ns ++ [_]) (by rw [List.map_append]; walk_at "le") ⟨by rw [List.length_append]; exact add.1, add.2⟩
        · rw [decide_eq_false hr]
          walk_at "V"
          exact Nx.mk (ns ++ [_]) (by rw [List.map_append]; walk_at "le") ⟨by rw [List.length_append]; exact add.1, add.2⟩
      · rw [decide_eq_false hw]
        walk_at "V"
        exact Nx.mk ns (by walk_at "le") ⟨Nat.le_succ_of_le nl, no⟩
    · rintro ns ⟨nl, no⟩
      walk_at "V"
      by_cases hr : rm = 1
      · rw [decide_eq_true hr]
        walk_at "V"
        rw [show ns.map tN ++ [VL.T.tup [.int hi, .bl true], VL.T.tup [.int lo, .bl true]] = (ns ++ [(hi, true), (lo, true)]).map tN by rw [List.map_append]; rfl]
        walk_at "V"
        refine k _ _ (fun q hq => ?_) (by rw [List.length_append]; show _ + 2 ≤ _; omega) B2
        rcases List.mem_append.mp hq with h | h
        · exact no q h
        · rcases List.mem_cons.mp h with rfl | h
          · exact ⟨i0, i1⟩
          · rw [List.mem_singleton.mp h]; exact ⟨o0, o1⟩
      · rw [decide_eq_false hr]
        walk_at "V"
        exact k _ _ no (by omega) B2
def spPerson : VSp := fun vs Q _ => ∃ (bx : T) (l : Int) (w : Bool), vs = [bx, .int l, .bl w] ∧ Bx bx ∧ 0 ≤ l ∧ l ≤ 60 ∧ ∀ (ns : List (Int × Bool)) bx', NOk l ns → Bx bx' → Q (.new (.lst (ns.map tN))) [bx']
theorem sc__law_person : FnScope ["_law_box", "_law_last", "_law_wide", "_law_low", "_law_high", "_law_notes_here"] ["_law_box", "_law_last", "_law_wide"] (defScope s__law_person) := ⟨rfl, rfl, rfl, by decide +kernel, rfl, by decide +kernel, by decide +kernel⟩
theorem ok__law_person (T : Txt K mg D) : FnOk P w K mg base CX0 7 D.a__law_person D.d__law_person ["_law_box", "_law_last", "_law_wide"] (vsp K [true, false, false] spPerson) := by
  have G__law_fences := ok__law_fences (P := P) (w := w) (base := base) T
  have G__law_notes := ok__law_notes (P := P) (w := w) (base := base) T
  have G__law_take := ok__law_take (P := P) (w := w) (base := base) T
  refine VL.okV T.F__law_person sc__law_person rfl (by decide) (fun cdv A outer s H E hr => have hu := VL.huR hr; ⟨_, (pss_cons (ps_set (i := 3) sc__law_person.nd rfl (Or.inl rfl) (pe_call G__law_take (hr.mono (by decide)) (by rfl) T.g__law_take T.F__law_take.kp T.b__law_take .nil pass0 (pa_cons (pv 0) (pa_cons (pe_op VL.op_addU (pv 1) pe_int) pa_nil))))
      (pss_cons (ps_set (i := 4) sc__law_person.nd rfl (Or.inl rfl) (pe_op VL.op_addU (pv 3) (pe_call G__law_take (hr.mono (by decide)) (by rfl) T.g__law_take T.F__law_take.kp T.b__law_take .nil pass0 (pa_cons (pv 0) (pa_cons (pe_op op_sub (pe_op VL.op_addU (pv 1) pe_int) (pv 3)) pa_nil)))))
      (pss_cons (ps_set (i := 5) sc__law_person.nd rfl (Or.inl rfl) (pe_call G__law_notes (hr.mono (by decide)) (by rfl) T.g__law_notes T.F__law_notes.kp T.b__law_notes .nil pass0 (pa_cons (pv 0) (pa_cons (pv 1) (pa_cons (pv 3) (pa_cons (pv 4) pa_nil))))))
      (pss_cons (ps_if (pt_val (pv 2))
      (pss_one (ps_set (i := 5) sc__law_person.nd rfl (Or.inl rfl) (pe_op VL.op_addU (pv 5) (pe_call G__law_fences (hr.mono (by decide)) (by rfl) T.g__law_fences T.F__law_fences.kp T.b__law_fences .nil pass0 (pa_cons (pv 0) (pa_cons (pv 1) (pa_cons (pv 3) (pa_cons (pv 4) pa_nil))))))))
      pss_nil)
      (pss_one (ps_ret (pv 5))))))), ?_⟩)
  apply VL.wvI
  · intro B; walk_at "vi"
  · intro ts Qv Xv h
    obtain ⟨bx, l, w, rfl, hB, l0, l6, k⟩ := h
    walk_at "V"
    refine ⟨_, _, rfl, hB, by omega, by omega, fun lo b1 o0 o1 B1 => ?_⟩
    walk_at "V"
    refine ⟨_, _, rfl, B1, by omega, by omega, fun m b2 m0 m1 B2 => ?_⟩
    walk_at "V"
    refine ⟨_, _, _, _, rfl, B2, by omega, by omega, fun ns b3 no nl B3 => ?_⟩
    walk_at "V"
    cases w
    · walk_at "V"
      exact k _ _ ⟨no, by omega⟩ B3
    · walk_at "V"
      refine ⟨_, _, _, _, rfl, B3, by omega, by omega, by omega, by omega, by omega, by omega, fun ms b4 mo ml B4 => ?_⟩
      walk_at "V"
      rw [← List.map_append]
      refine k _ _ ⟨fun q hq => ?_, by rw [List.length_append]; omega⟩ B4
      rcases List.mem_append.mp hq with h | h
      · exact no q h
      · exact mo q h
end
end Toy
set_option Elab.async false
set_option linter.all false
set_option maxRecDepth 100000
set_option maxHeartbeats 4000000
set_option synthInstance.maxSize 1000000
set_option synthInstance.maxHeartbeats 4000000
namespace Toy
open PySem L2 XR VL
local macro_rules | `(tactic| walk_at "ne") => `(tactic| first | assumption | (apply Ne.symm; assumption) | exact XR.ne_fresh (by assumption) (by walk_at "hp") | exact Ne.symm (XR.ne_fresh (by assumption) (by walk_at "hp")))
local macro_rules | `(tactic| walk_at "hp") => `(tactic| first | assumption | exact upd_same | (refine Eq.trans (upd_ne ?_) ?_; (walk_at "ne"); walk_at "hp"))
local macro_rules | `(tactic| walk_at "sq") => `(tactic| first | walk_at "hp" | exact SqL.of (by walk_at "hp") | exact SqT.of (by walk_at "hp") | exact XR.SqT.same (by assumption) (by assumption) | exact XR.SqL.same (by assumption) (by assumption))
local macro_rules | `(tactic| walk_at "br") => `(tactic| (refine ite2 ?_ ?_ <;> intro hbr <;> (try simp only [decide_eq_true_eq, decide_eq_false_iff_not, V.int.injEq, V.bl.injEq, V.str.injEq, Bool.not_eq_true, Bool.not_eq_eq_eq_not, Bool.not_true, Bool.not_false, ne_eq, Int.reduceToNat, Int.reducePow, Int.reduceMul, Int.reduceAdd, Int.reduceSub, reduceCtorEq, not_true_eq_false, not_false_eq_true, Int.not_lt, Int.not_le] at hbr)))
local macro_rules | `(tactic| walk_at "side") => `(tactic| first
  | exact ⟨by decide, by decide, by decide⟩
  | exact .inl ⟨by decide, by decide⟩
  | exact .inr ⟨by decide, by decide⟩
  | exact XR.divw (by first | decide | omega) (by first | decide | omega)
  | (show (_ : Int) = _; first | rfl | omega)
  | (show (0 : Int) < _; first | decide | assumption | omega)
  | exact .inl ⟨by omega, by omega⟩
  | exact .inr ⟨by omega, by omega⟩
  | exact .inl (XR.cmul_mod (by decide))
  | exact XR.log_lt (by omega) (by omega)
  | decide
  | (rw [sizeLine_eq]; simp; done)
  | (show 2 ≤ sizeLine; decide) | (show 3 ≤ sizeLine; decide) | (show 4 ≤ sizeLine; decide) | (show 5 ≤ sizeLine; decide) | (show 6 ≤ sizeLine; decide) | (show 7 ≤ sizeLine; decide) | (show 1 ≤ sizeLine; decide) | (show 8 ≤ sizeLine; decide) | (show 0 ≤ sizeLine; decide))
local macro_rules | `(tactic| walk_at "rd1") => `(tactic| first
  | refine ⟨_, rfl, ?_⟩
  | refine ⟨_, _, rfl, rfl, ?_⟩
  | refine ⟨_, _, _, _, rfl, rfl, (by walk_at "sq"), rfl, ?_⟩
  | refine ⟨_, _, _, _, rfl, rfl, (by walk_at "hp"), (by walk_at "hp"), (by walk_at "side"), ?_⟩
  | refine ⟨_, _, rfl, .inl (by walk_at "sq"), ?_⟩
  | refine ⟨_, _, rfl, .inl ⟨(by walk_at "sq"), ?_⟩⟩
  | refine ⟨_, _, rfl, .inr (by walk_at "sq"), ?_⟩
  | refine ⟨_, _, _, _, _, rfl, (by walk_at "hp"), (by walk_at "cls"), (by walk_at "noat"), rfl, ?_⟩
  | refine ⟨_, _, _, _, rfl, rfl, (by walk_at "sq"), (by first | assumption | exact XR.at0 | exact XR.at1), ?_⟩
  | refine ⟨rfl, ?_⟩
  | refine And.intro (by walk_at "side") ?_
  | refine .inl ⟨_, rfl, ?_⟩
  | refine And.intro ⟨_, (by walk_at "sq")⟩ ?_
  | refine ⟨_, _, rfl, (by walk_at "sq"), ?_⟩
  | refine ⟨_, _, rfl, ?_⟩
  | refine .inr ⟨_, rfl, (by walk_at "side"), ?_⟩
  | refine ⟨_, _, _, rfl, (by walk_at "hp"), ?_⟩
  | refine iteT ?_
  | refine iteF ?_)
local macro_rules | `(tactic| walk_at "rd") => `(tactic| repeat (walk_at "rd1"))
local macro_rules | `(tactic| walk_at "nn") => `(tactic| (simp only [Int.reduceToNat, Int.reducePow, Int.reduceMul, Int.reduceAdd, Int.reduceSub, Int.reduceNeg]))
local macro_rules | `(tactic| walk_at "dr") => `(tactic| repeat (first | refine And.intro (by first | assumption | walk_at "pre") ?_ | refine And.intro (by first | decide | omega) ?_))
local macro_rules | `(tactic| walk_at "vi") => `(tactic| ((try dsimp only [L2.cxOf, L2.Cx.nox, L2.Cx.wish, L2.Cx.blk, L2.Cx.suite, L2.Cx.tr, L2H.cxH, List.map_cons, List.map_nil]); (try simp only [List.map_cons, List.map_nil]); infer_instance))
local macro_rules | `(tactic| walk_at "w") => `(tactic| conv => whnf)
local macro_rules | `(tactic| walk_at "sz") => `(tactic| first
  | (show _ ≤ sizeLine; rw [sizeLine_eq]; first | decide | omega | (simp; done) | (simp; omega))
  | (show _ < sizeLine; rw [sizeLine_eq]; first | decide | omega | (simp; done) | (simp; omega)))
local macro_rules | `(tactic| walk_at "ok") => `(tactic| first
  | exact encInt.list.ok (by decide) _ | exact encInt.tupl.ok (by decide) _ | exact encStr.list.ok (by decide) _ | exact encStr.tupl.ok (by decide) _
  | exact (encInt.pair encInt).list.ok (by decide) _ | exact (encInt.pair encInt).ok (by decide) _ | exact (encStr.pair encStr).list.ok (by decide) _ | exact (encStr.pair encStr).ok (by decide) _
  | exact encInt.tupl.list.ok (by decide) _)
local macro_rules | `(tactic| walk_at "vs") => `(tactic| first
  | exact trivial
  | assumption
  | exact rfl
  | exact ⟨rfl, rfl⟩
  | walk_at "ok"
  | walk_at "sz"
  | exact .inl (.inr ⟨by decide, by decide⟩)
  | exact .inl (.inl ⟨by first | decide | omega, by first | decide | omega⟩)
  | exact .inl (.inr ⟨by first | decide | omega, by first | decide | omega⟩)
  | exact XR.divw (by first | decide | omega) (by first | decide | omega)
  | (show (0 : Int) < _; first | decide | omega)
  | exact ⟨by first | decide | omega, by first | decide | omega⟩
  | exact ⟨by first | decide | omega, by first | decide | omega, by first | decide | omega⟩
  | exact ⟨by walk_at "sz", by omega, by omega⟩
  | exact ⟨by walk_at "cls", by walk_at "noat"⟩
  | exact ⟨by walk_at "xf", by walk_at "xe"⟩
  | walk_at "exm"
  | decide
  | exact XR.log_lt (by omega) (by omega)
  | ((try dsimp only); (try simp only [List.length_map, List.length_append, List.length_cons, List.length_nil, List.length_eraseIdx]); omega))
local macro_rules | `(tactic| walk_at "v") => `(tactic| (walk_at "w"; (repeat ((first | refine And.intro (by walk_at "vs") ?_ | refine isS_i (by assumption) ?_); walk_at "w")); (try walk_at "n")))
local macro_rules | `(tactic| walk_at "isi") => `(tactic| first | refine ⟨_, VL.IsI.int_int _, ?_⟩ | refine ⟨_, VL.IsI.int_bool _, ?_⟩ | refine ⟨_, VL.IsI.int_str _, ?_⟩ | refine ⟨_, VL.IsI.int_list _, ?_⟩ | refine ⟨_, VL.IsI.int_tuple _, ?_⟩ | refine ⟨_, VL.IsI.bl_int _, ?_⟩ | refine ⟨_, VL.IsI.bl_bool _, ?_⟩ | refine ⟨_, VL.IsI.bl_str _, ?_⟩ | refine ⟨_, VL.IsI.str_str _, ?_⟩ | refine ⟨_, VL.IsI.str_int _, ?_⟩ | refine ⟨_, VL.IsI.str_bool _, ?_⟩ | refine ⟨_, VL.IsI.lst_list _, ?_⟩ | refine ⟨_, VL.IsI.lst_tuple _, ?_⟩ | refine ⟨_, VL.IsI.tup_list _, ?_⟩ | refine ⟨_, VL.IsI.tup_tuple _, ?_⟩ | refine ⟨_, VL.IsI.tup_str _, ?_⟩ | refine ⟨_, VL.IsI.tup_int _, ?_⟩ | refine ⟨_, VL.IsI.dk_dict _, ?_⟩ | refine ⟨_, VL.IsI.non_int, ?_⟩ | refine ⟨_, VL.IsI.non_tuple, ?_⟩ | refine ⟨_, VL.IsI.non_list, ?_⟩ | refine ⟨_, VL.IsI.non_str, ?_⟩)
local macro_rules | `(tactic| walk_at "V") => `(tactic| (walk_at "w"; (repeat ((first | refine And.intro (by walk_at "vs") ?_ | refine isS_i (by assumption) ?_ | refine Or.inr ?_ | walk_at "isi" | walk_at "eis" | refine ⟨_, rfl, ?_⟩); walk_at "w")); (try walk_at "n")))
set_option hygiene false
local macro_rules | `(tactic| walk_at "vb") => `(tactic| (refine br_i ?_ ?_ <;> intro hbr <;> (try simp only [nb, decide_eq_true_eq, decide_eq_false_iff_not, Bool.not_eq_true, Bool.not_eq_eq_eq_not, Bool.not_true, Bool.not_false, ne_eq, Bool.and_eq_true, Bool.or_eq_true, Bool.and_eq_false_imp, Decidable.not_not, Int.not_lt, Int.not_le, bne_iff_ne, Bool.not_eq_false, Bool.or_eq_false_iff, reduceCtorEq, not_true_eq_false, not_false_eq_true] at hbr)))
set_option hygiene true
local macro_rules | `(tactic| walk_at "le") => `(tactic| exact VL.Le.to rfl (Nat.le_of_ble_eq_true rfl))
local macro_rules | `(tactic| walk_at "d") => `(tactic| dsimp only at *)
local macro_rules | `(tactic| walk_at "n") => `(tactic| dsimp only [VL.env0, VL.slots0, VL.mem0, VL.nones, VL.falses, VL.put_mk, VL.push_mk, VL.set_mk, VL.unset_mk, VL.wipe_nl, VL.wipe_cs, VL.el_mk, VL.frs_nl, VL.frs_cs, VL.fr_mk, VL.frX, VL.frSl, VL.nth, Nat.reduceAdd, Nat.reduceSub, Nat.reduceMul, Nat.reduceBEq, List.set, List.length_cons, List.length_nil, List.cons_append, List.nil_append, VL.qI, VL.qT, VL.qR])
local macro_rules | `(tactic| walk_at "cls") => `(tactic| first | exact T_cl_Stay (by assumption))
local macro_rules | `(tactic| walk_at "noat") => `(tactic| first | exact Txt.no_Stay_come (by assumption) | exact Txt.no_Stay_go (by assumption))
local macro_rules | `(tactic| walk_at "eis") => `(tactic| first | fail)
local macro_rules | `(tactic| walk_at "exm") => `(tactic| first | fail)
local macro_rules | `(tactic| walk_at "xf") => `(tactic| first | exact T_xf_EmptyStay (by assumption) | exact T_xf_OutOfRange (by assumption) | fail)
local macro_rules | `(tactic| walk_at "xe") => `(tactic| first | exact Txt.e_EmptyStay_come (by assumption) | exact Txt.e_EmptyStay_go (by assumption) | exact Txt.e_OutOfRange_value (by assumption) | fail)
local macro_rules | `(tactic| walk_at "isi") => `(tactic| first | refine ⟨_, VL.IsI.mk _ _ (.obj (fun _ _ _ _ e => T_ty_Stay (by assumption) e)) (.cls _) (Txt.zo_Stay_Stay (by assumption)), ?_⟩ | refine ⟨_, VL.IsI.mk _ _ (.obj (fun _ _ _ _ e => T_ty_Stay (by assumption) e)) (.ty _) (Txt.zo_Stay_bool (by assumption)), ?_⟩ | refine ⟨_, VL.IsI.mk _ _ (.obj (fun _ _ _ _ e => T_ty_Stay (by assumption) e)) (.ty _) (Txt.zo_Stay_int (by assumption)), ?_⟩ | refine ⟨_, VL.IsI.mk _ _ (.obj (fun _ _ _ _ e => T_ty_Stay (by assumption) e)) (.ty _) (Txt.zo_Stay_str (by assumption)), ?_⟩ | refine ⟨_, VL.IsI.mk _ _ (.obj (fun _ _ _ _ e => T_ty_Stay (by assumption) e)) (.ty _) (Txt.zo_Stay_tuple (by assumption)), ?_⟩)
local macro_rules | `(tactic| walk_at "vs") => `(tactic| exact Txt.nit (by assumption))
section
variable {P : Program} {w : World} {K : PySem.W.Frag} {mg : Str → Option Value} {base : Heap} {D : Ad}
def tR2 (p : Int × Int) : T := .tup [.int p.1, .int p.2]
theorem encR2 : Enc tR2 1 := encInt.pair encInt
def kR (p : Int × Int) : List Key := [.inl p.1, .inl p.2]
theorem kR_inj (a b : Int × Int) (h : kR a = kR b) : a = b := by
  unfold kR at h
  injection h with h1 h2
  injection h2 with h2 _
  injection h1 with h1
  injection h2 with h2
  exact Prod.ext h1 h2
def tab (rs : List (Int × Int)) : List (List Key × VL.T) := seenA kR (VL.T.bl true) rs
theorem tab_in (rs : List (Int × Int)) (a b : Int) : (valA (tab rs) [.inl a, .inl b]).isSome = decide ((a, b) ∈ rs) := (seenA_some kR kR_inj (VL.T.bl true) rs (a, b)).trans (decide_eq_decide.mpr Iff.rfl)
def least (rows : List (Int × Int)) : List (Int × Int) := rows.filter fun r => decide ((r.1 + 1, r.2) ∉ rows) && decide ((r.1, r.2 - 1) ∉ rows)
def greatest (rows : List (Int × Int)) : List (Int × Int) := rows.filter fun r => decide ((r.1 - 1, r.2) ∉ rows) && decide ((r.1, r.2 + 1) ∉ rows)
def spLeast (f : List (Int × Int) → List (Int × Int)) : VSp := fun vs Q _ => ∃ rows : List (Int × Int), vs = [.lst (rows.map tR2)] ∧ rows.length ≤ 5000 ∧ Q (.new (.lst ((f rows).map tR2))) []
theorem sc__law_least : FnScope ["_law_rows", "_law_known", "_law_row"] ["_law_rows"] (defScope s__law_least) := ⟨rfl, rfl, rfl, by decide +kernel, rfl, by decide +kernel, by decide +kernel⟩
theorem ok__law_least (T : Txt K mg D) : FnOk P w K mg base CX0 1 D.a__law_least D.d__law_least ["_law_rows"] (vsp K [false] (spLeast least)) := by
  refine VL.okV T.F__law_least sc__law_least rfl (by decide) (fun cdv A outer s H E hr => have hu := VL.huR hr; ⟨_, (pss_cons (ps_set (i := 1) sc__law_least.nd rfl (Or.inr rfl) pe_dnewT)
      (pss_cons (ps_for PassesOwn.never rfl (VL.pi_dyn (pv 0)) (pg_name (i := 2) sc__law_least.nd rfl (Or.inl rfl))
      (pss_one (VL.ps_dputK (K := K) rfl hu (pv 1) (pv 2) pe_bl rfl)))
      (pss_one (ps_ret (pe_lc (own := [("_law_row", 2)]) (g := gName 2) (by rfl) sc__law_least.nd (VL.pi_dyn (pv 0)) (blkOk_by (own := [("_law_row", 2)]) (N := ["_law_rows", "_law_known", "_law_row"]) (sc := defScope s__law_least) (by decide +kernel)) (fun _ _ _ _ _ => (pg_name (i := 2) sc__law_least.nd rfl (Or.inl rfl))) (fun _ _ _ _ _ => (pts_one (PW.pt (pw_and (pt_cmp (VL.pe_dnotinK (K := K) rfl hu (pe_tup (pa_cons (pe_op (VL.op_addK (K := K) rfl) (pe_ix (VL.ix_seqK (K := K) rfl) (pv 2) pe_int (fun _ _ => rfl)) pe_int) (pa_cons (pe_ix (VL.ix_seqK (K := K) rfl) (pv 2) pe_int (fun _ _ => rfl)) pa_nil))) (pv 1)) rfl) (pw_and1 (pt_cmp (VL.pe_dnotinK (K := K) rfl hu (pe_tup (pa_cons (pe_ix (VL.ix_seqK (K := K) rfl) (pv 2) pe_int (fun _ _ => rfl)) (pa_cons (pe_op op_sub (pe_ix (VL.ix_seqK (K := K) rfl) (pv 2) pe_int (fun _ _ => rfl)) pe_int) pa_nil))) (pv 1)) rfl)))))) (fun _ _ _ _ _ => (pv 2))))))), ?_⟩)
  apply VL.wvI
  · intro B; walk_at "vi"
  · intro ts Qv Xv h
    obtain ⟨rows, rfl, l5, k⟩ := h
    walk_at "V"
    refine for_mapF (β := List (List Key × VL.T)) (xs := rows) (f := tR2) (fun γ s => γ.put 0 (.mu (.dt s))) (fun j s => s = tab (rows.take j)) (Nx.mk [] (by walk_at "le") rfl) ?_ ?_
    · rintro j r _ hr rfl
      have tl := seenA_len kR (VL.T.bl true) (rows.take j)
      have tk := List.length_take_le j rows
      have tl : (tab (rows.take j)).length ≤ 5000 := Nat.le_trans tl (by have := List.length_take_le' j rows; omega)
      walk_at "V"
      refine Nx.mk _ (by walk_at "le") ?_
      rw [XR.take_one hr]
      exact (seenA_snoc kR _ _ r).symm
    · rintro _ rfl
      rw [List.take_length]
      walk_at "V"
      refine lc_filter (xs := rows) (f := tR2) (fun r => decide ((r.1 + 1, r.2) ∉ rows) && decide ((r.1, r.2 - 1) ∉ rows)) tR2 (fun i r out hr hl => ?_) ?_
      · walk_at "V"
        rw [tab_in]
        by_cases h1 : (r.1 + 1, r.2) ∈ rows
        · rw [decide_eq_true h1]
          walk_at "V"
          exact NL.skip (q := decide ((r.1 + 1, r.2) ∉ rows) && decide ((r.1, r.2 - 1) ∉ rows)) (by simp [h1]) (by walk_at "le")
        rw [decide_eq_false h1]
        walk_at "V"
        rw [tab_in]
        by_cases h2 : (r.1, r.2 - 1) ∈ rows
        · rw [decide_eq_true h2]
          walk_at "V"
          exact NL.skip (q := decide ((r.1 + 1, r.2) ∉ rows) && decide ((r.1, r.2 - 1) ∉ rows)) (by simp [h2]) (by walk_at "le")
        rw [decide_eq_false h2]
        walk_at "V"
        exact NL.keep (q := decide ((r.1 + 1, r.2) ∉ rows) && decide ((r.1, r.2 - 1) ∉ rows)) (by rw [decide_eq_true h1, decide_eq_true h2]; rfl) (by walk_at "le")
      · exact k
theorem sc__law_greatest : FnScope ["_law_rows", "_law_known", "_law_row"] ["_law_rows"] (defScope s__law_greatest) := ⟨rfl, rfl, rfl, by decide +kernel, rfl, by decide +kernel, by decide +kernel⟩
theorem ok__law_greatest (T : Txt K mg D) : FnOk P w K mg base CX0 1 D.a__law_greatest D.d__law_greatest ["_law_rows"] (vsp K [false] (spLeast greatest)) := by
  refine VL.okV T.F__law_greatest sc__law_greatest rfl (by decide) (fun cdv A outer s H E hr => have hu := VL.huR hr; ⟨_, (pss_cons (ps_set (i := 1) sc__law_greatest.nd rfl (Or.inr rfl) pe_dnewT)
      (pss_cons (ps_for PassesOwn.never rfl (VL.pi_dyn (pv 0)) (pg_name (i := 2) sc__law_greatest.nd rfl (Or.inl rfl))
      (pss_one (VL.ps_dputK (K := K) rfl hu (pv 1) (pv 2) pe_bl rfl)))
      (pss_one (ps_ret (pe_lc (own := [("_law_row", 2)]) (g := gName 2) (by rfl) sc__law_greatest.nd (VL.pi_dyn (pv 0)) (blkOk_by (own := [("_law_row", 2)]) (N := ["_law_rows", "_law_known", "_law_row"]) (sc := defScope s__law_greatest) (by decide +kernel)) (fun _ _ _ _ _ => (pg_name (i := 2) sc__law_greatest.nd rfl (Or.inl rfl))) (fun _ _ _ _ _ => (pts_one (PW.pt (pw_and (pt_cmp (VL.pe_dnotinK (K := K) rfl hu (pe_tup (pa_cons (pe_op op_sub (pe_ix (VL.ix_seqK (K := K) rfl) (pv 2) pe_int (fun _ _ => rfl)) pe_int) (pa_cons (pe_ix (VL.ix_seqK (K := K) rfl) (pv 2) pe_int (fun _ _ => rfl)) pa_nil))) (pv 1)) rfl) (pw_and1 (pt_cmp (VL.pe_dnotinK (K := K) rfl hu (pe_tup (pa_cons (pe_ix (VL.ix_seqK (K := K) rfl) (pv 2) pe_int (fun _ _ => rfl)) (pa_cons (pe_op (VL.op_addK (K := K) rfl) (pe_ix (VL.ix_seqK (K := K) rfl) (pv 2) pe_int (fun _ _ => rfl)) pe_int) pa_nil))) (pv 1)) rfl)))))) (fun _ _ _ _ _ => (pv 2))))))), ?_⟩)
  apply VL.wvI
  · intro B; walk_at "vi"
  · intro ts Qv Xv h
    obtain ⟨rows, rfl, l5, k⟩ := h
    walk_at "V"
    refine for_mapF (β := List (List Key × VL.T)) (xs := rows) (f := tR2) (fun γ s => γ.put 0 (.mu (.dt s))) (fun j s => s = tab (rows.take j)) (Nx.mk [] (by walk_at "le") rfl) ?_ ?_
    · rintro j r _ hr rfl
      have tl := seenA_len kR (VL.T.bl true) (rows.take j)
      have tk := List.length_take_le j rows
      have tl : (tab (rows.take j)).length ≤ 5000 := Nat.le_trans tl (by have := List.length_take_le' j rows; omega)
      walk_at "V"
      refine Nx.mk _ (by walk_at "le") ?_
      rw [XR.take_one hr]
      exact (seenA_snoc kR _ _ r).symm
    · rintro _ rfl
      rw [List.take_length]
      walk_at "V"
      refine lc_filter (xs := rows) (f := tR2) (fun r => decide ((r.1 - 1, r.2) ∉ rows) && decide ((r.1, r.2 + 1) ∉ rows)) tR2 (fun i r out hr hl => ?_) ?_
      · walk_at "V"
        rw [tab_in]
        by_cases h1 : (r.1 - 1, r.2) ∈ rows
        · rw [decide_eq_true h1]
          walk_at "V"
          exact NL.skip (q := decide ((r.1 - 1, r.2) ∉ rows) && decide ((r.1, r.2 + 1) ∉ rows)) (by simp [h1]) (by walk_at "le")
        rw [decide_eq_false h1]
        walk_at "V"
        rw [tab_in]
        by_cases h2 : (r.1, r.2 + 1) ∈ rows
        · rw [decide_eq_true h2]
          walk_at "V"
          exact NL.skip (q := decide ((r.1 - 1, r.2) ∉ rows) && decide ((r.1, r.2 + 1) ∉ rows)) (by simp [h2]) (by walk_at "le")
        rw [decide_eq_false h2]
        walk_at "V"
        exact NL.keep (q := decide ((r.1 - 1, r.2) ∉ rows) && decide ((r.1, r.2 + 1) ∉ rows)) (by rw [decide_eq_true h1, decide_eq_true h2]; rfl) (by walk_at "le")
      · exact k
end
end Toy
set_option Elab.async false
set_option linter.all false
set_option maxRecDepth 100000
set_option maxHeartbeats 4000000
set_option synthInstance.maxSize 1000000
set_option synthInstance.maxHeartbeats 4000000
namespace Toy
open PySem L2 XR VL
local macro_rules | `(tactic| walk_at "ne") => `(tactic| first | assumption | (apply Ne.symm; assumption) | exact XR.ne_fresh (by assumption) (by walk_at "hp") | exact Ne.symm (XR.ne_fresh (by assumption) (by walk_at "hp")))
local macro_rules | `(tactic| walk_at "hp") => `(tactic| first | assumption | exact upd_same | (refine Eq.trans (upd_ne ?_) ?_; (walk_at "ne"); walk_at "hp"))
local macro_rules | `(tactic| walk_at "sq") => `(tactic| first | walk_at "hp" | exact SqL.of (by walk_at "hp") | exact SqT.of (by walk_at "hp") | exact XR.SqT.same (by assumption) (by assumption) | exact XR.SqL.same (by assumption) (by assumption))
local macro_rules | `(tactic| walk_at "br") => `(tactic| (refine ite2 ?_ ?_ <;> intro hbr <;> (try simp only [decide_eq_true_eq, decide_eq_false_iff_not, V.int.injEq, V.bl.injEq, V.str.injEq, Bool.not_eq_true, Bool.not_eq_eq_eq_not, Bool.not_true, Bool.not_false, ne_eq, Int.reduceToNat, Int.reducePow, Int.reduceMul, Int.reduceAdd, Int.reduceSub, reduceCtorEq, not_true_eq_false, not_false_eq_true, Int.not_lt, Int.not_le] at hbr)))
local macro_rules | `(tactic| walk_at "side") => `(tactic| first
  | exact ⟨by decide, by decide, by decide⟩
  | exact .inl ⟨by decide, by decide⟩
  | exact .inr ⟨by decide, by decide⟩
  | exact XR.divw (by first | decide | omega) (by first | decide | omega)
  | (show (_ : Int) = _; first | rfl | omega)
  | (show (0 : Int) < _; first | decide | assumption | omega)
  | exact .inl ⟨by omega, by omega⟩
  | exact .inr ⟨by omega, by omega⟩
  | exact .inl (XR.cmul_mod (by decide))
  | exact XR.log_lt (by omega) (by omega)
  | decide
  | (rw [sizeLine_eq]; simp; done)
  | (show 2 ≤ sizeLine; decide) | (show 3 ≤ sizeLine; decide) | (show 4 ≤ sizeLine; decide) | (show 5 ≤ sizeLine; decide) | (show 6 ≤ sizeLine; decide) | (show 7 ≤ sizeLine; decide) | (show 1 ≤ sizeLine; decide) | (show 8 ≤ sizeLine; decide) | (show 0 ≤ sizeLine; decide))
local macro_rules | `(tactic| walk_at "rd1") => `(tactic| first
  | refine ⟨_, rfl, ?_⟩
  | refine ⟨_, _, rfl, rfl, ?_⟩
  | refine ⟨_, _, _, _, rfl, rfl, (by walk_at "sq"), rfl, ?_⟩
  | refine ⟨_, _, _, _, rfl, rfl, (by walk_at "hp"), (by walk_at "hp"), (by walk_at "side"), ?_⟩
  | refine ⟨_, _, rfl, .inl (by walk_at "sq"), ?_⟩
  | refine ⟨_, _, rfl, .inl ⟨(by walk_at "sq"), ?_⟩⟩
  | refine ⟨_, _, rfl, .inr (by walk_at "sq"), ?_⟩
  | refine ⟨_, _, _, _, _, rfl, (by walk_at "hp"), (by walk_at "cls"), (by walk_at "noat"), rfl, ?_⟩
  | refine ⟨_, _, _, _, rfl, rfl, (by walk_at "sq"), (by first | assumption | exact XR.at0 | exact XR.at1), ?_⟩
  | refine ⟨rfl, ?_⟩
  | refine And.intro (by walk_at "side") ?_
  | refine .inl ⟨_, rfl, ?_⟩
  | refine And.intro ⟨_, (by walk_at "sq")⟩ ?_
  | refine ⟨_, _, rfl, (by walk_at "sq"), ?_⟩
  | refine ⟨_, _, rfl, ?_⟩
  | refine .inr ⟨_, rfl, (by walk_at "side"), ?_⟩
  | refine ⟨_, _, _, rfl, (by walk_at "hp"), ?_⟩
  | refine iteT ?_
  | refine iteF ?_)
local macro_rules | `(tactic| walk_at "rd") => `(tactic| repeat (walk_at "rd1"))
local macro_rules | `(tactic| walk_at "nn") => `(tactic| (simp only [Int.reduceToNat, Int.reducePow, Int.reduceMul, Int.reduceAdd, Int.reduceSub, Int.reduceNeg]))
local macro_rules | `(tactic| walk_at "dr") => `(tactic| repeat (first | refine And.intro (by first | assumption | walk_at "pre") ?_ | refine And.intro (by first | decide | omega) ?_))
local macro_rules | `(tactic| walk_at "vi") => `(tactic| ((try dsimp only [L2.cxOf, L2.Cx.nox, L2.Cx.wish, L2.Cx.blk, L2.Cx.suite, L2.Cx.tr, L2H.cxH, List.map_cons, List.map_nil]); (try simp only [List.map_cons, List.map_nil]); infer_instance))
local macro_rules | `(tactic| walk_at "w") => `(tactic| conv => whnf)
local macro_rules | `(tactic| walk_at "sz") => `(tactic| first
  | (show _ ≤ sizeLine; rw [sizeLine_eq]; first | decide | omega | (simp; done) | (simp; omega))
  | (show _ < sizeLine; rw [sizeLine_eq]; first | decide | omega | (simp; done) | (simp; omega)))
local macro_rules | `(tactic| walk_at "ok") => `(tactic| first
  | exact encInt.list.ok (by decide) _ | exact encInt.tupl.ok (by decide) _ | exact encStr.list.ok (by decide) _ | exact encStr.tupl.ok (by decide) _
  | exact (encInt.pair encInt).list.ok (by decide) _ | exact (encInt.pair encInt).ok (by decide) _ | exact (encStr.pair encStr).list.ok (by decide) _ | exact (encStr.pair encStr).ok (by decide) _
  | exact encInt.tupl.list.ok (by decide) _)
local macro_rules | `(tactic| walk_at "vs") => `(tactic| first
  | exact trivial
  | assumption
  | exact rfl
  | exact ⟨rfl, rfl⟩
  | walk_at "ok"
  | walk_at "sz"
  | exact .inl (.inr ⟨by decide, by decide⟩)
  | exact .inl (.inl ⟨by first | decide | omega, by first | decide | omega⟩)
  | exact .inl (.inr ⟨by first | decide | omega, by first | decide | omega⟩)
  | exact XR.divw (by first | decide | omega) (by first | decide | omega)
  | (show (0 : Int) < _; first | decide | omega)
  | exact ⟨by first | decide | omega, by first | decide | omega⟩
  | exact ⟨by first | decide | omega, by first | decide | omega, by first | decide | omega⟩
  | exact ⟨by walk_at "sz", by omega, by omega⟩
  | exact ⟨by walk_at "cls", by walk_at "noat"⟩
  | exact ⟨by walk_at "xf", by walk_at "xe"⟩
  | walk_at "exm"
  | decide
  | exact XR.log_lt (by omega) (by omega)
  | ((try dsimp only); (try simp only [List.length_map, List.length_append, List.length_cons, List.length_nil, List.length_eraseIdx]); omega))
local macro_rules | `(tactic| walk_at "v") => `(tactic| (walk_at "w"; (repeat ((first | refine And.intro (by walk_at "vs") ?_ | refine isS_i (by assumption) ?_); walk_at "w")); (try walk_at "n")))
local macro_rules | `(tactic| walk_at "isi") => `(tactic| first | refine ⟨_, VL.IsI.int_int _, ?_⟩ | refine ⟨_, VL.IsI.int_bool _, ?_⟩ | refine ⟨_, VL.IsI.int_str _, ?_⟩ | refine ⟨_, VL.IsI.int_list _, ?_⟩ | refine ⟨_, VL.IsI.int_tuple _, ?_⟩ | refine ⟨_, VL.IsI.bl_int _, ?_⟩ | refine ⟨_, VL.IsI.bl_bool _, ?_⟩ | refine ⟨_, VL.IsI.bl_str _, ?_⟩ | refine ⟨_, VL.IsI.str_str _, ?_⟩ | refine ⟨_, VL.IsI.str_int _, ?_⟩ | refine ⟨_, VL.IsI.str_bool _, ?_⟩ | refine ⟨_, VL.IsI.lst_list _, ?_⟩ | refine ⟨_, VL.IsI.lst_tuple _, ?_⟩ | refine ⟨_, VL.IsI.tup_list _, ?_⟩ | refine ⟨_, VL.IsI.tup_tuple _, ?_⟩ | refine ⟨_, VL.IsI.tup_str _, ?_⟩ | refine ⟨_, VL.IsI.tup_int _, ?_⟩ | refine ⟨_, VL.IsI.dk_dict _, ?_⟩ | refine ⟨_, VL.IsI.non_int, ?_⟩ | refine ⟨_, VL.IsI.non_tuple, ?_⟩ | refine ⟨_, VL.IsI.non_list, ?_⟩ | refine ⟨_, VL.IsI.non_str, ?_⟩)
local macro_rules | `(tactic| walk_at "V") => `(tactic| (walk_at "w"; (repeat ((first | refine And.intro (by walk_at "vs") ?_ | refine isS_i (by assumption) ?_ | refine Or.inr ?_ | walk_at "isi" | walk_at "eis" | refine ⟨_, rfl, ?_⟩); walk_at "w")); (try walk_at "n")))
set_option hygiene false
local macro_rules | `(tactic| walk_at "vb") => `(tactic| (refine br_i ?_ ?_ <;> intro hbr <;> (try simp only [nb, decide_eq_true_eq, decide_eq_false_iff_not, Bool.not_eq_true, Bool.not_eq_eq_eq_not, Bool.not_true, Bool.not_false, ne_eq, Bool.and_eq_true, Bool.or_eq_true, Bool.and_eq_false_imp, Decidable.not_not, Int.not_lt, Int.not_le, bne_iff_ne, Bool.not_eq_false, Bool.or_eq_false_iff, reduceCtorEq, not_true_eq_false, not_false_eq_true] at hbr)))
set_option hygiene true
local macro_rules | `(tactic| walk_at "le") => `(tactic| exact VL.Le.to rfl (Nat.le_of_ble_eq_true rfl))
local macro_rules | `(tactic| walk_at "d") => `(tactic| dsimp only at *)
local macro_rules | `(tactic| walk_at "n") => `(tactic| dsimp only [VL.env0, VL.slots0, VL.mem0, VL.nones, VL.falses, VL.put_mk, VL.push_mk, VL.set_mk, VL.unset_mk, VL.wipe_nl, VL.wipe_cs, VL.el_mk, VL.frs_nl, VL.frs_cs, VL.fr_mk, VL.frX, VL.frSl, VL.nth, Nat.reduceAdd, Nat.reduceSub, Nat.reduceMul, Nat.reduceBEq, List.set, List.length_cons, List.length_nil, List.cons_append, List.nil_append, VL.qI, VL.qT, VL.qR])
local macro_rules | `(tactic| walk_at "cls") => `(tactic| first | exact T_cl_Stay (by assumption))
local macro_rules | `(tactic| walk_at "noat") => `(tactic| first | exact Txt.no_Stay_come (by assumption) | exact Txt.no_Stay_go (by assumption))
local macro_rules | `(tactic| walk_at "eis") => `(tactic| first | fail)
local macro_rules | `(tactic| walk_at "exm") => `(tactic| first | fail)
local macro_rules | `(tactic| walk_at "xf") => `(tactic| first | exact T_xf_EmptyStay (by assumption) | exact T_xf_OutOfRange (by assumption) | fail)
local macro_rules | `(tactic| walk_at "xe") => `(tactic| first | exact Txt.e_EmptyStay_come (by assumption) | exact Txt.e_EmptyStay_go (by assumption) | exact Txt.e_OutOfRange_value (by assumption) | fail)
local macro_rules | `(tactic| walk_at "isi") => `(tactic| first | refine ⟨_, VL.IsI.mk _ _ (.obj (fun _ _ _ _ e => T_ty_Stay (by assumption) e)) (.cls _) (Txt.zo_Stay_Stay (by assumption)), ?_⟩ | refine ⟨_, VL.IsI.mk _ _ (.obj (fun _ _ _ _ e => T_ty_Stay (by assumption) e)) (.ty _) (Txt.zo_Stay_bool (by assumption)), ?_⟩ | refine ⟨_, VL.IsI.mk _ _ (.obj (fun _ _ _ _ e => T_ty_Stay (by assumption) e)) (.ty _) (Txt.zo_Stay_int (by assumption)), ?_⟩ | refine ⟨_, VL.IsI.mk _ _ (.obj (fun _ _ _ _ e => T_ty_Stay (by assumption) e)) (.ty _) (Txt.zo_Stay_str (by assumption)), ?_⟩ | refine ⟨_, VL.IsI.mk _ _ (.obj (fun _ _ _ _ e => T_ty_Stay (by assumption) e)) (.ty _) (Txt.zo_Stay_tuple (by assumption)), ?_⟩)
local macro_rules | `(tactic| walk_at "vs") => `(tactic| exact Txt.nit (by assumption))
section
variable {P : Program} {w : World} {K : PySem.W.Frag} {mg : Str → Option Value} {base : Heap} {D : Ad}
/-- a stay that fits the notes -/
def Fit (l : Int) (ns : List (Int × Bool)) (c g : Int) : Prop := 0 ≤ c ∧ c ≤ g ∧ g ≤ l ∧ (∀ p ∈ ns, p.2 = false → ¬ (c ≤ p.1 ∧ p.1 ≤ g)) ∧ ∀ p ∈ ns, p.2 = true → c ≤ p.1 ∧ p.1 ≤ g
def ltR (a b : Int × Int) : Prop := a.1 < b.1 ∨ (a.1 = b.1 ∧ a.2 < b.2)
/-- the rows: all that fit, in order -/
structure Rows (l : Int) (ns : List (Int × Bool)) (rows : List (Int × Int)) : Prop where
  mem : ∀ c g, (c, g) ∈ rows ↔ Fit l ns c g
  ord : rows.Pairwise ltR
  ln : rows.length ≤ 4000
def shutL (ns : List (Int × Bool)) : List Int := (ns.filter fun p => !p.2).map Prod.fst
def seenL (ns : List (Int × Bool)) : List Int := (ns.filter fun p => p.2).map Prod.fst
theorem mem_shut {ns : List (Int × Bool)} {d : Int} : d ∈ shutL ns ↔ (d, false) ∈ ns := by
  unfold shutL
  rw [List.mem_map]
  constructor
  · rintro ⟨p, hp, rfl⟩
    obtain ⟨h1, h2⟩ := List.mem_filter.mp hp
    obtain ⟨d, b⟩ := p
    cases b with
    | false => exact h1
    | true => cases h2
  · intro h
    exact ⟨(d, false), List.mem_filter.mpr ⟨h, rfl⟩, rfl⟩
theorem mem_seen {ns : List (Int × Bool)} {d : Int} : d ∈ seenL ns ↔ (d, true) ∈ ns := by
  unfold seenL
  rw [List.mem_map]
  constructor
  · rintro ⟨p, hp, rfl⟩
    obtain ⟨h1, h2⟩ := List.mem_filter.mp hp
    obtain ⟨d, b⟩ := p
    cases b with
    | false => cases h2
    | true => exact h1
  · intro h
    exact ⟨(d, true), List.mem_filter.mpr ⟨h, rfl⟩, rfl⟩
theorem fit_iff {l c g : Int} {ns : List (Int × Bool)} : Fit l ns c g ↔ 0 ≤ c ∧ c ≤ g ∧ g ≤ l ∧ (∀ d ∈ shutL ns, ¬ (c ≤ d ∧ d ≤ g)) ∧ ∀ d ∈ seenL ns, c ≤ d ∧ d ≤ g := by
  unfold Fit
  refine and_congr_right fun _ => and_congr_right fun _ => and_congr_right fun _ => and_congr ⟨fun h d hd => h _ (mem_shut.mp hd) rfl, fun h p hp e => ?_⟩ ⟨fun h d hd => h _ (mem_seen.mp hd) rfl, fun h p hp e => ?_⟩
  · obtain ⟨d, b⟩ := p
    have e : b = false := e
    subst e
    exact h d (mem_shut.mpr hp)
  · obtain ⟨d, b⟩ := p
    have e : b = true := e
    subst e
    exact h d (mem_seen.mpr hp)
def spFitting : VSp := fun vs Q _ => ∃ (ns : List (Int × Bool)) (l : Int), vs = [.lst (ns.map tN), .int l] ∧ NOk l ns ∧ 0 ≤ l ∧ l ≤ 60 ∧ ∀ rows, Rows l ns rows → Q (.new (.lst (rows.map tR2))) []
theorem sc__law_fitting : FnScope ["_law_notes_here", "_law_last", "_law_shut", "_law_seen", "_law_low", "_law_high", "_law_rows", "_law_come", "_law_go", "_law_note"] ["_law_notes_here", "_law_last"] (defScope s__law_fitting) := ⟨rfl, rfl, rfl, by decide +kernel, rfl, by decide +kernel, by decide +kernel⟩
theorem ok__law_fitting (T : Txt K mg D) : FnOk P w K mg base CX0 1 D.a__law_fitting D.d__law_fitting ["_law_notes_here", "_law_last"] (vsp K [false, false] spFitting) := by
  refine VL.okV T.F__law_fitting sc__law_fitting rfl (by decide) (fun cdv A outer s H E hr => have hu := VL.huR hr; ⟨_, (pss_cons (ps_setLc (i := 2) (own := [("_law_note", 9)]) (g := gName 9) (by rfl) sc__law_fitting.nd rfl rfl (sw_true rfl rfl rfl (by decide +kernel)) (VL.pi_dyn (pv 0)) (blkOk_by (own := [("_law_note", 9)]) (N := ["_law_notes_here", "_law_last", "_law_shut", "_law_seen", "_law_low", "_law_high", "_law_rows", "_law_come", "_law_go", "_law_note"]) (sc := defScope s__law_fitting) (by decide +kernel)) (fun _ _ _ _ _ => (pg_name (i := 9) sc__law_fitting.nd rfl (Or.inl rfl))) (fun _ _ _ _ _ => (pts_one (pt_not (pt_val (pe_ix (VL.ix_seqK (K := K) rfl) (pv 9) pe_int (fun _ _ => rfl)))))) (fun _ _ _ _ _ => (pe_ix (VL.ix_seqK (K := K) rfl) (pv 9) pe_int (fun _ _ => rfl))))
      (pss_cons (ps_setLc (i := 3) (own := [("_law_note", 9)]) (g := gName 9) (by rfl) sc__law_fitting.nd rfl rfl (sw_true rfl rfl rfl (by decide +kernel)) (VL.pi_dyn (pv 0)) (blkOk_by (own := [("_law_note", 9)]) (N := ["_law_notes_here", "_law_last", "_law_shut", "_law_seen", "_law_low", "_law_high", "_law_rows", "_law_come", "_law_go", "_law_note"]) (sc := defScope s__law_fitting) (by decide +kernel)) (fun _ _ _ _ _ => (pg_name (i := 9) sc__law_fitting.nd rfl (Or.inl rfl))) (fun _ _ _ _ _ => (pts_one (pt_val (pe_ix (VL.ix_seqK (K := K) rfl) (pv 9) pe_int (fun _ _ => rfl))))) (fun _ _ _ _ _ => (pe_ix (VL.ix_seqK (K := K) rfl) (pv 9) pe_int (fun _ _ => rfl))))
      (pss_cons (ps_set (i := 4) sc__law_fitting.nd rfl (Or.inl rfl) (pe_callB (XR.cr_minQ rfl) (by rfl) T.n_min (by decide +kernel) (pa_cons (pe_op VL.op_addU (pe_lst (pa_cons (pv 1) pa_nil)) (pv 3)) pa_nil)))
      (pss_cons (ps_set (i := 5) sc__law_fitting.nd rfl (Or.inl rfl) (pe_callB (XR.cr_maxQ rfl) (by rfl) T.n_max (by decide +kernel) (pa_cons (pe_op VL.op_addU (pe_lst (pa_cons pe_int pa_nil)) (pv 3)) pa_nil)))
      (pss_cons (ps_set (i := 6) sc__law_fitting.nd rfl (Or.inl rfl) (pe_lst pa_nil))
      (pss_cons (ps_for PassesOwn.never rfl (pi_range1 (by rfl) T.n_range (pa_cons (pe_op VL.op_addU (pv 1) pe_int) pa_nil)) (pg_name (i := 7) sc__law_fitting.nd rfl (Or.inl rfl))
      (pss_one (ps_for PassesOwn.never rfl (pi_range2 (by rfl) T.n_range (pa_cons (pv 7) (pa_cons (pe_op VL.op_addU (pv 1) pe_int) pa_nil))) (pg_name (i := 8) sc__law_fitting.nd rfl (Or.inl rfl))
      (pss_cons (ps_if (pt_cmpR (VL.op_inU hu) (pv 8) (pv 2) rfl)
      (pss_one ps_break)
      pss_nil)
      (pss_one (ps_if (PW.pt (pw_and (pt_cmpR op_le (pv 7) (pv 4) (nomark _)) (pw_and1 (pt_cmpR op_le (pv 5) (pv 8) (nomark _)))))
      (pss_one (ps_expr (pe_bm PySem.F.plainAttrs_list PySem.F.slot_list_append PySem.F.type_list_append mt_append (pv 6) (pa_cons (pe_tup (pa_cons (pv 7) (pa_cons (pv 8) pa_nil))) pa_nil))))
      pss_nil))))))
      (pss_one (ps_ret (pv 6))))))))), ?_⟩)
  apply VL.wvI
  · intro B; walk_at "vi"
  · intro ts Qv Xv h
    obtain ⟨ns, l, rfl, ok, l0, l6, k⟩ := h
    have nl := ok.ln
    walk_at "V"
    refine lc_filter (xs := ns) (f := tN) (fun p => !p.2) (fun p => .int p.1) (fun i p out hp hl => ?_) ?_
    · obtain ⟨d, b⟩ := p
      cases b
      · walk_at "V"
        exact NL.keep (q := true) rfl (by walk_at "le")
      · exact NL.skip (q := false) rfl (by walk_at "le")
    rw [show (ns.filter fun p => !p.2).map (fun p => VL.T.int p.1) = (shutL ns).map VL.T.int by unfold shutL; rw [List.map_map]; rfl]
    walk_at "V"
    refine lc_filter (xs := ns) (f := tN) (fun p => p.2) (fun p => .int p.1) (fun i p out hp hl => ?_) ?_
    · obtain ⟨d, b⟩ := p
      cases b
      · exact NL.skip (q := false) rfl (by walk_at "le")
      · walk_at "V"
        exact NL.keep (q := true) rfl (by walk_at "le")
    rw [show (ns.filter fun p => p.2).map (fun p => VL.T.int p.1) = (seenL ns).map VL.T.int by unfold seenL; rw [List.map_map]; rfl]
    have sl : (seenL ns).length ≤ 300 := by
      unfold seenL
      rw [List.length_map]
      exact Nat.le_trans (List.length_filter_le _ _) nl
    walk_at "V"
    refine ⟨l :: seenL ns, rfl, Nat.succ_pos _, fun lo h1 h2 => ?_⟩
    walk_at "V"
    refine ⟨0 :: seenL ns, rfl, Nat.succ_pos _, fun hi g1 g2 => ?_⟩
    walk_at "V"
    have cond : ∀ c g : Int, 0 ≤ c → c ≤ g → g ≤ l → (∀ d ∈ shutL ns, ¬ (c ≤ d ∧ d ≤ g)) → (Fit l ns c g ↔ c ≤ lo ∧ hi ≤ g) := fun c g c0 cg gl hs => by
      rw [fit_iff]
      constructor
      · rintro ⟨_, _, _, _, h⟩
        constructor
        · rcases List.mem_cons.mp h1 with e | e
          · omega
          · exact (h _ e).1
        · rcases List.mem_cons.mp g1 with e | e
          · omega
          · exact (h _ e).2
      · rintro ⟨h, h'⟩
        exact ⟨c0, cg, gl, hs, fun d hd => ⟨Int.le_trans h (h2 d (List.mem_cons_of_mem _ hd)), Int.le_trans (g2 d (List.mem_cons_of_mem _ hd)) h'⟩⟩
    refine for_rngF (β := List (Int × Int)) (fun γ s => γ.put 6 (.mu (.lst (s.map tR2)))) (fun i s => (∀ c g, (c, g) ∈ s ↔ Fit l ns c g ∧ c < (i : Int)) ∧ s.Pairwise ltR ∧ s.length ≤ 61 * i) (Nx.mk [] (by walk_at "le") ⟨fun c g => ⟨fun h => (by cases h), fun h => absurd h.1.1 (by have := h.2; omega)⟩, List.Pairwise.nil, Nat.zero_le _⟩) ?_ ?_
    · rintro i s hj ⟨hm, ho, hn⟩
      have hi6 : i < 61 := by omega
      walk_at "V"
      refine for_rngF (β := List (Int × Int)) (fun γ s => γ.put 6 (.mu (.lst (s.map tR2)))) (fun j s => (∀ c g, (c, g) ∈ s ↔ Fit l ns c g ∧ (c < (i : Int) ∨ (c = (i : Int) ∧ g < (i : Int) + (j : Int)))) ∧ s.Pairwise ltR ∧ s.length ≤ 61 * i + j ∧ ∀ d ∈ shutL ns, ¬ ((i : Int) ≤ d ∧ d < (i : Int) + (j : Int))) (Nx.mk s (by walk_at "le") ⟨fun c g => ?_, ho, hn, fun d _ => by omega⟩) ?_ ?_
      · rw [hm]
        constructor
        · rintro ⟨f, h⟩
          exact ⟨f, .inl h⟩
        · rintro ⟨f, h | ⟨h, h'⟩⟩
          · exact ⟨f, h⟩
          · have := f.2.1
            omega
      · rintro j s hjj ⟨hm, ho, hn, hs⟩
        have hjj : (i : Int) + (j : Int) ≤ l := by omega
        have j61 : j < 61 := by omega
        walk_at "V"
        rw [encInt.mem]
        have e0 : 0 + (i : Int) + (j : Int) = (i : Int) + (j : Int) := by omega
        have e1 : 0 + (i : Int) = (i : Int) := by omega
        rw [e0, e1]
        walk_at "vb"
        · refine Nx.mk s (by walk_at "le") ⟨fun c g => ?_, ho, by show s.length ≤ 61 * (i + 1); omega⟩
          rw [hm]
          constructor
          · rintro ⟨f, h⟩
            exact ⟨f, by rcases h with h | h <;> omega⟩
          · rintro ⟨f, h⟩
            have := (fit_iff.mp f).2.2.2.1 _ hbr
            exact ⟨f, by omega⟩
        · have hs2 : ∀ d ∈ shutL ns, ¬ ((i : Int) ≤ d ∧ d ≤ (i : Int) + (j : Int)) := fun d hd ⟨q1, q2⟩ => by
            by_cases e : d = (i : Int) + (j : Int)
            · rw [e] at hd; exact hbr hd
            · exact hs d hd ⟨q1, by omega⟩
          have hs3 : ∀ d ∈ shutL ns, ¬ ((i : Int) ≤ d ∧ d < (i : Int) + ((j + 1 : Nat) : Int)) := fun d hd ⟨q1, q2⟩ => hs2 d hd ⟨q1, by omega⟩
          have cd := cond (i : Int) ((i : Int) + (j : Int)) (by omega) (by omega) hjj hs2
          have no : ¬ ((i : Int) ≤ lo ∧ hi ≤ (i : Int) + (j : Int)) → (∀ c g, (c, g) ∈ s ↔ Fit l ns c g ∧ (c < (i : Int) ∨ (c = (i : Int) ∧ g < (i : Int) + ((j + 1 : Nat) : Int)))) := fun z c g => by
            rw [hm]
            constructor
            · rintro ⟨f, h⟩
              exact ⟨f, by omega⟩
            · rintro ⟨f, h⟩
              refine ⟨f, ?_⟩
              rcases h with h | ⟨h, h'⟩
              · exact .inl h
              · by_cases e : g = (i : Int) + (j : Int)
                · rw [h, e] at f
                  exact absurd (cd.mp f) z
                · exact .inr ⟨h, by omega⟩
          walk_at "V"
          by_cases c1 : (i : Int) ≤ lo
          · rw [decide_eq_true c1]
            walk_at "V"
            by_cases c2 : hi ≤ (i : Int) + (j : Int)
            · rw [decide_eq_true c2]
              have ff := cd.mpr ⟨c1, c2⟩
              walk_at "V"
              refine Nx.mk (s ++ [((i : Int), (i : Int) + (j : Int))]) (by rw [List.map_append]; walk_at "le") ⟨fun c g => ?_, ?_, by rw [List.length_append]; show _ + 1 ≤ _; omega, hs3⟩
              · rw [List.mem_append, hm, List.mem_singleton, Prod.mk.injEq]
                constructor
                · rintro (⟨f, h⟩ | ⟨rfl, rfl⟩)
                  · exact ⟨f, by omega⟩
                  · exact ⟨ff, .inr ⟨rfl, by omega⟩⟩
                · rintro ⟨f, h⟩
                  by_cases e : c = (i : Int) ∧ g = (i : Int) + (j : Int)
                  · exact .inr e
                  · exact .inl ⟨f, by omega⟩
              · refine List.pairwise_append.mpr ⟨ho, List.pairwise_singleton _ _, fun a ha b hb => ?_⟩
                rw [List.mem_singleton.mp hb]
                have := ((hm a.1 a.2).mp ha).2
                show a.1 < _ ∨ (a.1 = _ ∧ a.2 < _)
                exact this
            · rw [decide_eq_false c2]
              walk_at "V"
              exact Nx.mk s (by walk_at "le") ⟨no fun z => c2 z.2, ho, by show s.length ≤ 61 * i + (j + 1); omega, hs3⟩
          · rw [decide_eq_false c1]
            walk_at "V"
            exact Nx.mk s (by walk_at "le") ⟨no fun z => c1 z.1, ho, by show s.length ≤ 61 * i + (j + 1); omega, hs3⟩
      · rintro s ⟨hm, ho, hn, hs⟩
        walk_at "V"
        refine Nx.mk s (by walk_at "le") ⟨fun c g => ?_, ho, by show s.length ≤ 61 * (i + 1); omega⟩
        rw [hm]
        constructor
        · rintro ⟨f, h⟩
          exact ⟨f, by omega⟩
        · rintro ⟨f, h⟩
          have := f.2.2.1
          exact ⟨f, by omega⟩
    · rintro s ⟨hm, ho, hn⟩
      walk_at "V"
      refine k s ⟨fun c g => ?_, ho, by omega⟩
      rw [hm]
      constructor
      · exact fun h => h.1
      · intro f
        have := f.2.1
        have := f.2.2.1
        exact ⟨f, by omega⟩
end
end Toy
set_option Elab.async false
set_option linter.all false
set_option maxRecDepth 100000
set_option maxHeartbeats 4000000
set_option synthInstance.maxSize 1000000
set_option synthInstance.maxHeartbeats 4000000
namespace Toy
open PySem L2 XR VL
local macro_rules | `(tactic| walk_at "ne") => `(tactic| first | assumption | (apply Ne.symm; assumption) | exact XR.ne_fresh (by assumption) (by walk_at "hp") | exact Ne.symm (XR.ne_fresh (by assumption) (by walk_at "hp")))
local macro_rules | `(tactic| walk_at "hp") => `(tactic| first | assumption | exact upd_same | (refine Eq.trans (upd_ne ?_) ?_; (walk_at "ne"); walk_at "hp"))
local macro_rules | `(tactic| walk_at "sq") => `(tactic| first | walk_at "hp" | exact SqL.of (by walk_at "hp") | exact SqT.of (by walk_at "hp") | exact XR.SqT.same (by assumption) (by assumption) | exact XR.SqL.same (by assumption) (by assumption))
local macro_rules | `(tactic| walk_at "br") => `(tactic| (refine ite2 ?_ ?_ <;> intro hbr <;> (try simp only [decide_eq_true_eq, decide_eq_false_iff_not, V.int.injEq, V.bl.injEq, V.str.injEq, Bool.not_eq_true, Bool.not_eq_eq_eq_not, Bool.not_true, Bool.not_false, ne_eq, Int.reduceToNat, Int.reducePow, Int.reduceMul, Int.reduceAdd, Int.reduceSub, reduceCtorEq, not_true_eq_false, not_false_eq_true, Int.not_lt, Int.not_le] at hbr)))
local macro_rules | `(tactic| walk_at "side") => `(tactic| first
  | exact ⟨by decide, by decide, by decide⟩
  | exact .inl ⟨by decide, by decide⟩
  | exact .inr ⟨by decide, by decide⟩
  | exact XR.divw (by first | decide | omega) (by first | decide | omega)
  | (show (_ : Int) = _; first | rfl | omega)
  | (show (0 : Int) < _; first | decide | assumption | omega)
  | exact .inl ⟨by omega, by omega⟩
  | exact .inr ⟨by omega, by omega⟩
  | exact .inl (XR.cmul_mod (by decide))
  | exact XR.log_lt (by omega) (by omega)
  | decide
  | (rw [sizeLine_eq]; simp; done)
  | (show 2 ≤ sizeLine; decide) | (show 3 ≤ sizeLine; decide) | (show 4 ≤ sizeLine; decide) | (show 5 ≤ sizeLine; decide) | (show 6 ≤ sizeLine; decide) | (show 7 ≤ sizeLine; decide) | (show 1 ≤ sizeLine; decide) | (show 8 ≤ sizeLine; decide) | (show 0 ≤ sizeLine; decide))
local macro_rules | `(tactic| walk_at "rd1") => `(tactic| first
  | refine ⟨_, rfl, ?_⟩
  | refine ⟨_, _, rfl, rfl, ?_⟩
  | refine ⟨_, _, _, _, rfl, rfl, (by walk_at "sq"), rfl, ?_⟩
  | refine ⟨_, _, _, _, rfl, rfl, (by walk_at "hp"), (by walk_at "hp"), (by walk_at "side"), ?_⟩
  | refine ⟨_, _, rfl, .inl (by walk_at "sq"), ?_⟩
  | refine ⟨_, _, rfl, .inl ⟨(by walk_at "sq"), ?_⟩⟩
  | refine ⟨_, _, rfl, .inr (by walk_at "sq"), ?_⟩
  | refine ⟨_, _, _, _, _, rfl, (by walk_at "hp"), (by walk_at "cls"), (by walk_at "noat"), rfl, ?_⟩
  | refine ⟨_, _, _, _, rfl, rfl, (by walk_at "sq"), (by first | assumption | exact XR.at0 | exact XR.at1), ?_⟩
  | refine ⟨rfl, ?_⟩
  | refine And.intro (by walk_at "side") ?_
  | refine .inl ⟨_, rfl, ?_⟩
  | refine And.intro ⟨_, (by walk_at "sq")⟩ ?_
  | refine ⟨_, _, rfl, (by walk_at "sq"), ?_⟩
  | refine ⟨_, _, rfl, ?_⟩
  | refine .inr ⟨_, rfl, (by walk_at "side"), ?_⟩
  | refine ⟨_, _, _, rfl, (by walk_at "hp"), ?_⟩
  | refine iteT ?_
  | refine iteF ?_)
local macro_rules | `(tactic| walk_at "rd") => `(tactic| repeat (walk_at "rd1"))
local macro_rules | `(tactic| walk_at "nn") => `(tactic| (simp only [Int.reduceToNat, Int.reducePow, Int.reduceMul, Int.reduceAdd, Int.reduceSub, Int.reduceNeg]))
local macro_rules | `(tactic| walk_at "dr") => `(tactic| repeat (first | refine And.intro (by first | assumption | walk_at "pre") ?_ | refine And.intro (by first | decide | omega) ?_))
local macro_rules | `(tactic| walk_at "vi") => `(tactic| ((try dsimp only [L2.cxOf, L2.Cx.nox, L2.Cx.wish, L2.Cx.blk, L2.Cx.suite, L2.Cx.tr, L2H.cxH, List.map_cons, List.map_nil]); (try simp only [List.map_cons, List.map_nil]); infer_instance))
local macro_rules | `(tactic| walk_at "w") => `(tactic| conv => whnf)
local macro_rules | `(tactic| walk_at "sz") => `(tactic| first
  | (show _ ≤ sizeLine; rw [sizeLine_eq]; first | decide | omega | (simp; done) | (simp; omega))
  | (show _ < sizeLine; rw [sizeLine_eq]; first | decide | omega | (simp; done) | (simp; omega)))
local macro_rules | `(tactic| walk_at "ok") => `(tactic| first
  | exact encInt.list.ok (by decide) _ | exact encInt.tupl.ok (by decide) _ | exact encStr.list.ok (by decide) _ | exact encStr.tupl.ok (by decide) _
  | exact (encInt.pair encInt).list.ok (by decide) _ | exact (encInt.pair encInt).ok (by decide) _ | exact (encStr.pair encStr).list.ok (by decide) _ | exact (encStr.pair encStr).ok (by decide) _
  | exact encInt.tupl.list.ok (by decide) _)
local macro_rules | `(tactic| walk_at "vs") => `(tactic| first
  | exact trivial
  | assumption
  | exact rfl
  | exact ⟨rfl, rfl⟩
  | walk_at "ok"
  | walk_at "sz"
  | exact .inl (.inr ⟨by decide, by decide⟩)
  | exact .inl (.inl ⟨by first | decide | omega, by first | decide | omega⟩)
  | exact .inl (.inr ⟨by first | decide | omega, by first | decide | omega⟩)
  | exact XR.divw (by first | decide | omega) (by first | decide | omega)
  | (show (0 : Int) < _; first | decide | omega)
  | exact ⟨by first | decide | omega, by first | decide | omega⟩
  | exact ⟨by first | decide | omega, by first | decide | omega, by first | decide | omega⟩
  | exact ⟨by walk_at "sz", by omega, by omega⟩
  | exact ⟨by walk_at "cls", by walk_at "noat"⟩
  | exact ⟨by walk_at "xf", by walk_at "xe"⟩
  | walk_at "exm"
  | decide
  | exact XR.log_lt (by omega) (by omega)
  | ((try dsimp only); (try simp only [List.length_map, List.length_append, List.length_cons, List.length_nil, List.length_eraseIdx]); omega))
local macro_rules | `(tactic| walk_at "v") => `(tactic| (walk_at "w"; (repeat ((first | refine And.intro (by walk_at "vs") ?_ | refine isS_i (by assumption) ?_); walk_at "w")); (try walk_at "n")))
local macro_rules | `(tactic| walk_at "isi") => `(tactic| first | refine ⟨_, VL.IsI.int_int _, ?_⟩ | refine ⟨_, VL.IsI.int_bool _, ?_⟩ | refine ⟨_, VL.IsI.int_str _, ?_⟩ | refine ⟨_, VL.IsI.int_list _, ?_⟩ | refine ⟨_, VL.IsI.int_tuple _, ?_⟩ | refine ⟨_, VL.IsI.bl_int _, ?_⟩ | refine ⟨_, VL.IsI.bl_bool _, ?_⟩ | refine ⟨_, VL.IsI.bl_str _, ?_⟩ | refine ⟨_, VL.IsI.str_str _, ?_⟩ | refine ⟨_, VL.IsI.str_int _, ?_⟩ | refine ⟨_, VL.IsI.str_bool _, ?_⟩ | refine ⟨_, VL.IsI.lst_list _, ?_⟩ | refine ⟨_, VL.IsI.lst_tuple _, ?_⟩ | refine ⟨_, VL.IsI.tup_list _, ?_⟩ | refine ⟨_, VL.IsI.tup_tuple _, ?_⟩ | refine ⟨_, VL.IsI.tup_str _, ?_⟩ | refine ⟨_, VL.IsI.tup_int _, ?_⟩ | refine ⟨_, VL.IsI.dk_dict _, ?_⟩ | refine ⟨_, VL.IsI.non_int, ?_⟩ | refine ⟨_, VL.IsI.non_tuple, ?_⟩ | refine ⟨_, VL.IsI.non_list, ?_⟩ | refine ⟨_, VL.IsI.non_str, ?_⟩)
local macro_rules | `(tactic| walk_at "V") => `(tactic| (walk_at "w"; (repeat ((first | refine And.intro (by walk_at "vs") ?_ | refine isS_i (by assumption) ?_ | refine Or.inr ?_ | walk_at "isi" | walk_at "eis" | refine ⟨_, rfl, ?_⟩); walk_at "w")); (try walk_at "n")))
set_option hygiene false
local macro_rules | `(tactic| walk_at "vb") => `(tactic| (refine br_i ?_ ?_ <;> intro hbr <;> (try simp only [nb, decide_eq_true_eq, decide_eq_false_iff_not, Bool.not_eq_true, Bool.not_eq_eq_eq_not, Bool.not_true, Bool.not_false, ne_eq, Bool.and_eq_true, Bool.or_eq_true, Bool.and_eq_false_imp, Decidable.not_not, Int.not_lt, Int.not_le, bne_iff_ne, Bool.not_eq_false, Bool.or_eq_false_iff, reduceCtorEq, not_true_eq_false, not_false_eq_true] at hbr)))
set_option hygiene true
local macro_rules | `(tactic| walk_at "le") => `(tactic| exact VL.Le.to rfl (Nat.le_of_ble_eq_true rfl))
local macro_rules | `(tactic| walk_at "d") => `(tactic| dsimp only at *)
local macro_rules | `(tactic| walk_at "n") => `(tactic| dsimp only [VL.env0, VL.slots0, VL.mem0, VL.nones, VL.falses, VL.put_mk, VL.push_mk, VL.set_mk, VL.unset_mk, VL.wipe_nl, VL.wipe_cs, VL.el_mk, VL.frs_nl, VL.frs_cs, VL.fr_mk, VL.frX, VL.frSl, VL.nth, Nat.reduceAdd, Nat.reduceSub, Nat.reduceMul, Nat.reduceBEq, List.set, List.length_cons, List.length_nil, List.cons_append, List.nil_append, VL.qI, VL.qT, VL.qR])
local macro_rules | `(tactic| walk_at "cls") => `(tactic| first | exact T_cl_Stay (by assumption))
local macro_rules | `(tactic| walk_at "noat") => `(tactic| first | exact Txt.no_Stay_come (by assumption) | exact Txt.no_Stay_go (by assumption))
local macro_rules | `(tactic| walk_at "eis") => `(tactic| first | fail)
local macro_rules | `(tactic| walk_at "exm") => `(tactic| first | fail)
local macro_rules | `(tactic| walk_at "xf") => `(tactic| first | exact T_xf_EmptyStay (by assumption) | exact T_xf_OutOfRange (by assumption) | fail)
local macro_rules | `(tactic| walk_at "xe") => `(tactic| first | exact Txt.e_EmptyStay_come (by assumption) | exact Txt.e_EmptyStay_go (by assumption) | exact Txt.e_OutOfRange_value (by assumption) | fail)
local macro_rules | `(tactic| walk_at "isi") => `(tactic| first | refine ⟨_, VL.IsI.mk _ _ (.obj (fun _ _ _ _ e => T_ty_Stay (by assumption) e)) (.cls _) (Txt.zo_Stay_Stay (by assumption)), ?_⟩ | refine ⟨_, VL.IsI.mk _ _ (.obj (fun _ _ _ _ e => T_ty_Stay (by assumption) e)) (.ty _) (Txt.zo_Stay_bool (by assumption)), ?_⟩ | refine ⟨_, VL.IsI.mk _ _ (.obj (fun _ _ _ _ e => T_ty_Stay (by assumption) e)) (.ty _) (Txt.zo_Stay_int (by assumption)), ?_⟩ | refine ⟨_, VL.IsI.mk _ _ (.obj (fun _ _ _ _ e => T_ty_Stay (by assumption) e)) (.ty _) (Txt.zo_Stay_str (by assumption)), ?_⟩ | refine ⟨_, VL.IsI.mk _ _ (.obj (fun _ _ _ _ e => T_ty_Stay (by assumption) e)) (.ty _) (Txt.zo_Stay_tuple (by assumption)), ?_⟩)
local macro_rules | `(tactic| walk_at "vs") => `(tactic| exact Txt.nit (by assumption))
section
variable {P : Program} {w : World} {K : PySem.W.Frag} {mg : Str → Option Value} {base : Heap} {D : Ad}
def tSqN (b : Bool) (ts : List T) : T := if b then .lst ts else .tup ts
def tSt (D : Ad) (p : Int × Int) : T := .obj D.c_Stay [("come", .int p.1), ("go", .int p.2)]
theorem sc_EmptyStay_init : FnScope ["self", "come", "go"] ["self", "come", "go"] (defScope s_EmptyStay_init) := ⟨rfl, rfl, rfl, by decide +kernel, rfl, by decide +kernel, by decide +kernel⟩
theorem ok_EmptyStay_init (T : Txt K mg D) : FnOk P w K mg base CX0 1 D.a_EmptyStay_init D.d_EmptyStay_init ["self", "come", "go"] (spErr D.c_EmptyStay ["come", "go"]) := by
  refine T.F_EmptyStay_init.ok sc_EmptyStay_init (fun vs H Q E h => ?_) (fun cdv A outer s H vs Q E hr h => ?_)
  · obtain ⟨a, ws, l, rfl, e, _⟩ := h
    match ws, e with
    | [_, _], _ => rfl
  · obtain ⟨a, ws, l, rfl, e, ha, k⟩ := h
    match ws, e with
    | [v0, v1], e =>
      cases e
      refine ⟨_, (pss_cons (ps_ost (pv 0) (pv 1)) (pss_one (ps_ost (pv 0) (pv 2)))), ?_⟩
      walk_at "rd"
      refine init_ex1 (T_ox_EmptyStay T) T.e_EmptyStay_come ha fun d H1 hd hda ea ed x1 => ?_
      walk_at "rd"
      refine init_ex2 (T_ox_EmptyStay T) T.e_EmptyStay_go (by show 1 ≤ 900; decide) ea ed hda fun H2 ea2 ed2 x2 => ?_
      exact k d H2 hd hda ea2 ed2 fun q o hq e => x2 q o hq (ne_of_none e hd) (x1 q o hq e)

theorem sc_OutOfRange_init : FnScope ["self", "value"] ["self", "value"] (defScope s_OutOfRange_init) := ⟨rfl, rfl, rfl, by decide +kernel, rfl, by decide +kernel, by decide +kernel⟩
theorem ok_OutOfRange_init (T : Txt K mg D) : FnOk P w K mg base CX0 1 D.a_OutOfRange_init D.d_OutOfRange_init ["self", "value"] (spErr D.c_OutOfRange ["value"]) := by
  refine T.F_OutOfRange_init.ok sc_OutOfRange_init (fun vs H Q E h => ?_) (fun cdv A outer s H vs Q E hr h => ?_)
  · obtain ⟨a, ws, l, rfl, e, _⟩ := h
    match ws, e with
    | [_], _ => rfl
  · obtain ⟨a, ws, l, rfl, e, ha, k⟩ := h
    match ws, e with
    | [v0], e =>
      cases e
      refine ⟨_, (pss_one (ps_ost (pv 0) (pv 1))), ?_⟩
      walk_at "rd"
      exact init_ex1 (T_ox_OutOfRange T) T.e_OutOfRange_value ha fun d H1 hd hda ea ed x1 => k d H1 hd hda ea ed x1

def spStay (D : Ad) : VSp := fun vs Q X => ∃ a b : Int, vs = [.obj D.c_Stay [], .int a, .int b] ∧ (b < a → X (D.c_EmptyStay, [("go", .int b), ("come", .int a)]) [.obj D.c_Stay []]) ∧ (a ≤ b → Q (.val .non) [tSt D (a, b)])
theorem sc_Stay_init : FnScope ["self", "come", "go"] ["self", "come", "go"] (defScope s_Stay_init) := ⟨rfl, rfl, rfl, by decide +kernel, rfl, by decide +kernel, by decide +kernel⟩
theorem ok_Stay_init (T : Txt K mg D) : FnOk P w K mg base (L2.CX P w) 3 D.a_Stay_init D.d_Stay_init ["self", "come", "go"] (vsp K [true, false, false] (spStay D)) := by
  refine VL.okVX T.F_Stay_init sc_Stay_init rfl (by decide) (fun cdv A outer s H E hr => have hu := VL.huR hr; ⟨_, (pss_cons (ps_if (pt_cmpR op_lt (pv 2) (pv 1) (nomark _))
      (pss_one (VL.ps_raiseU rfl (takes_of rfl rfl rfl rfl) (pmk_oex (T_ox_EmptyStay T) T.m_EmptyStay_init T.xti_EmptyStay (ok_EmptyStay_init T) (hr.mono (by decide)) T.b_EmptyStay_init .nil (fun _ _ _ _ _ _ _ z => z.elim) (by rfl) T.g_EmptyStay (pa_cons (pv 1) (pa_cons (pv 2) pa_nil)))))
      pss_nil)
      (pss_cons (ps_fld (pv 0) (pv 1) rfl)
      (pss_one (ps_fld (pv 0) (pv 2) rfl)))), ?_⟩)
  apply VL.wvI
  · intro B; walk_at "vi"
  · intro ts Qv Xv h
    obtain ⟨a, b, rfl, kE, k⟩ := h
    walk_at "V"
    walk_at "vb"
    · walk_at "V"
      exact kE hbr
    · walk_at "V"
      refine ⟨show 1 < 1000 by decide, ?_⟩
      walk_at "V"
      exact k (by omega)
def spCont (D : Ad) : VSpF := fun vs Q => ∃ (p : Int × Int) (d : Int), vs = [tSt D p, .int d] ∧ Q (.bl (decide (p.1 ≤ d ∧ d ≤ p.2)))
theorem sc_Stay___contains__ : FnScope ["self", "day"] ["self", "day"] (defScope s_Stay___contains__) := ⟨rfl, rfl, rfl, by decide +kernel, rfl, by decide +kernel, by decide +kernel⟩
theorem okv_Stay___contains__ (T : Txt K mg D) : FnOk P w K mg base CX0 1 D.a_Stay___contains__ D.d_Stay___contains__ ["self", "day"] (vsp K (VL.falses 2) (VL.ofF (spCont D))) := by
  refine VL.okV T.F_Stay___contains__ sc_Stay___contains__ rfl (by decide) (fun cdv A outer s H E hr => have hu := VL.huR hr; ⟨_, (pss_one (ps_ret (pe_chain op_le op_le (pe_fld (pv 0) rfl) (pv 1) (pe_fld (pv 0) rfl)))), ?_⟩)
  apply VL.wvI
  · intro B; walk_at "vi"
  · intro ts Qv Xv h
    obtain ⟨Q0, ⟨p, d, rfl, k⟩, kq⟩ := h
    walk_at "V"
    by_cases h : p.1 ≤ d
    · rw [decide_eq_true h]
      walk_at "V"
      exact kq _ rfl (by rw [show decide (d ≤ p.2) = decide (p.1 ≤ d ∧ d ≤ p.2) from decide_eq_decide.mpr ⟨fun z => ⟨h, z⟩, fun z => z.2⟩]; exact k)
    · rw [decide_eq_false h]
      walk_at "V"
      exact kq _ rfl (by rw [show false = decide (p.1 ≤ d ∧ d ≤ p.2) from (decide_eq_false fun z => h z.1).symm]; exact k)
theorem ok_Stay___contains__ (T : Txt K mg D) : FnOk P w K mg base CX0 1 D.a_Stay___contains__ D.d_Stay___contains__ ["self", "day"] (vspF K (spCont D)) := VL.okF (okv_Stay___contains__ T) (fun ts Q h => by obtain ⟨p, d, rfl, _⟩ := h; rfl)
def spMeets (D : Ad) : VSpF := fun vs Q => ∃ (p q : Int × Int), vs = [tSt D p, tSt D q] ∧ Q (.bl (decide (p.1 ≤ q.2 ∧ q.1 ≤ p.2)))
theorem sc_Stay_meets : FnScope ["self", "other"] ["self", "other"] (defScope s_Stay_meets) := ⟨rfl, rfl, rfl, by decide +kernel, rfl, by decide +kernel, by decide +kernel⟩
theorem okv_Stay_meets (T : Txt K mg D) : FnOk P w K mg base CX0 1 D.a_Stay_meets D.d_Stay_meets ["self", "other"] (vsp K (VL.falses 2) (VL.ofF (spMeets D))) := by
  refine VL.okV T.F_Stay_meets sc_Stay_meets rfl (by decide) (fun cdv A outer s H E hr => have hu := VL.huR hr; ⟨_, (pss_one (ps_ret (pe_and (pe_cmpR op_le (pe_fld (pv 0) rfl) (pe_fld (pv 1) rfl) (nomark _)) (pe_one (pe_cmpR op_le (pe_fld (pv 1) rfl) (pe_fld (pv 0) rfl) (nomark _)))))), ?_⟩)
  apply VL.wvI
  · intro B; walk_at "vi"
  · intro ts Qv Xv h
    obtain ⟨Q0, ⟨p, q, rfl, k⟩, kq⟩ := h
    walk_at "V"
    by_cases h : p.1 ≤ q.2
    · rw [decide_eq_true h]
      walk_at "V"
      exact kq _ rfl (by rw [show decide (q.1 ≤ p.2) = decide (p.1 ≤ q.2 ∧ q.1 ≤ p.2) from decide_eq_decide.mpr ⟨fun z => ⟨h, z⟩, fun z => z.2⟩]; exact k)
    · rw [decide_eq_false h]
      walk_at "V"
      exact kq _ rfl (by rw [show false = decide (p.1 ≤ q.2 ∧ q.1 ≤ p.2) from (decide_eq_false fun z => h z.1).symm]; exact k)
theorem ok_Stay_meets (T : Txt K mg D) : FnOk P w K mg base CX0 1 D.a_Stay_meets D.d_Stay_meets ["self", "other"] (vspF K (spMeets D)) := VL.okF (okv_Stay_meets T) (fun ts Q h => by obtain ⟨p, q, rfl, _⟩ := h; rfl)
def spCheck : VSp := fun vs Q X => ∃ (b : Bool) (ns : List (Int × Bool)) (l : Int), vs = [tSqN b (ns.map tN), .int l] ∧ NOk l ns ∧ Q (.val .non) []
theorem sc__check_days : FnScope ["notes", "last", "day", "_"] ["notes", "last"] (defScope s__check_days) := ⟨rfl, rfl, rfl, by decide +kernel, rfl, by decide +kernel, by decide +kernel⟩
theorem ok__check_days (T : Txt K mg D) : FnOk P w K mg base (L2.CX P w) 3 D.a__check_days D.d__check_days ["notes", "last"] (vsp K [false, false] spCheck) := by
  refine VL.okVX T.F__check_days sc__check_days rfl (by decide) (fun cdv A outer s H E hr => have hu := VL.huR hr; ⟨_, (pss_one (ps_for (passes_of rfl) rfl (VL.pi_dyn (pv 0)) (pg_tup (by rfl) (pgs_cons (pg_name (i := 2) sc__check_days.nd rfl (Or.inl rfl)) (pgs_cons (pg_name (i := 3) sc__check_days.nd rfl (Or.inl rfl)) pgs_nil)))
      (pss_one (ps_if (pt_not (pt_chain op_le op_le pe_int (pv 2) (pv 1)))
      (pss_one (VL.ps_raiseU rfl (takes_of rfl rfl rfl rfl) (pmk_oex (T_ox_OutOfRange T) T.m_OutOfRange_init T.xti_OutOfRange (ok_OutOfRange_init T) (hr.mono (by decide)) T.b_OutOfRange_init .nil (fun _ _ _ _ _ _ _ z => z.elim) (by rfl) T.g_OutOfRange (pa_cons (pv 2) pa_nil))))
      pss_nil)))), ?_⟩)
  apply VL.wvI
  · intro B; walk_at "vi"
  · intro ts Qv Xv h
    obtain ⟨b, ns, l, rfl, ok, k⟩ := h
    cases b
    all_goals
      walk_at "V"
      refine for_mapF (β := Unit) (xs := ns) (f := tN) (fun γ _ => γ) (fun _ _ => True) (Nx.mk () (by walk_at "le") trivial) ?_ ?_
      · rintro i p ⟨⟩ hp _
        obtain ⟨h1, h2⟩ := ok.dr p (List.mem_of_getElem? hp)
        walk_at "V"
        rw [decide_eq_true h1]
        walk_at "V"
        rw [decide_eq_true h2]
        walk_at "V"
        exact Nx.mk () (by walk_at "le") trivial
      · rintro ⟨⟩ _
        walk_at "V"
        exact k
def spDays : VSp := fun vs Q _ => ∃ ps : List (Int × Int), vs = [.lst (ps.map tR2)] ∧ ps.length ≤ 300 ∧ Q (.new (.lst ((ps.map Prod.fst).map VL.T.int))) []
theorem sc__days : FnScope ["noted", "day", "_"] ["noted"] (defScope s__days) := ⟨rfl, rfl, rfl, by decide +kernel, rfl, by decide +kernel, by decide +kernel⟩
theorem ok__days (T : Txt K mg D) : FnOk P w K mg base CX0 1 D.a__days D.d__days ["noted"] (vsp K [false] spDays) := by
  refine VL.okV T.F__days sc__days rfl (by decide) (fun cdv A outer s H E hr => have hu := VL.huR hr; ⟨_, (pss_one (ps_ret (pe_lc (own := [("day", 1), ("_", 2)]) (g := gTup K 2 (gCons (gName 1) (gCons (gName 2) gNil))) (tt := tYes) (by rfl) sc__days.nd (VL.pi_dyn (pv 0)) (blkOk_by (own := [("day", 1), ("_", 2)]) (N := ["noted", "day", "_"]) (sc := defScope s__days) (by decide +kernel)) (fun _ _ _ _ _ => (pg_tup (by rfl) (pgs_cons (pg_name (i := 1) sc__days.nd rfl (Or.inl rfl)) (pgs_cons (pg_name (i := 2) sc__days.nd rfl (Or.inl rfl)) pgs_nil)))) (fun _ _ _ _ _ => pts_nil) (fun _ _ _ _ _ => (pv 1))))), ?_⟩)
  apply VL.wvI
  · intro B; walk_at "vi"
  · intro ts Qv Xv h
    obtain ⟨ps, rfl, l3, k⟩ := h
    walk_at "V"
    refine lc_map (xs := ps) (f := tR2) (fun p => .int p.1) (fun i x out hx hl => ?_) ?_
    · walk_at "V"
      exact NL.mk _ (by walk_at "le") rfl
    rw [show ps.map (fun p => VL.T.int p.1) = (ps.map Prod.fst).map VL.T.int by rw [List.map_map]; rfl]
    exact k
def spNoted : VSp := fun vs Q _ => ∃ (b : Bool) (ns : List (Int × Bool)) (z : Bool), vs = [tSqN b (ns.map tN), .bl z] ∧ ns.length ≤ 300 ∧ ∀ ps : List (Int × Int), ps.Pairwise leP → (∀ d, d ∈ ps.map Prod.fst ↔ (d, z) ∈ ns) → ps.length ≤ 300 → Q (.new (.lst (ps.map tR2))) []
theorem sc__noted : FnScope ["notes", "seen", "at", "note"] ["notes", "seen"] (defScope s__noted) := ⟨rfl, rfl, rfl, by decide +kernel, rfl, by decide +kernel, by decide +kernel⟩
theorem ok__noted (T : Txt K mg D) : FnOk P w K mg base CX0 1 D.a__noted D.d__noted ["notes", "seen"] (vsp K [false, false] spNoted) := by
  refine VL.okV T.F__noted sc__noted rfl (by decide) (fun cdv A outer s H E hr => have hu := VL.huR hr; ⟨_, (pss_one (ps_ret (pe_callB (VL.call_sortedP (K := K) rfl) (by rfl) T.n_sorted (by decide +kernel) (pa_cons (pe_lc (own := [("at", 2), ("note", 3)]) (g := gTup K 2 (gCons (gName 2) (gCons (gName 3) gNil))) (by rfl) sc__noted.nd (XR.pi_enumQ (by rfl) T.n_enumerate (pa_cons (pv 0) pa_nil)) (blkOk_by (own := [("at", 2), ("note", 3)]) (N := ["notes", "seen", "at", "note"]) (sc := defScope s__noted) (by decide +kernel)) (fun _ _ _ _ _ => (pg_tup (by rfl) (pgs_cons (pg_name (i := 2) sc__noted.nd rfl (Or.inl rfl)) (pgs_cons (pg_name (i := 3) sc__noted.nd rfl (Or.inl rfl)) pgs_nil)))) (fun _ _ _ _ _ => (pts_one (pt_cmpR (VL.op_eqK (K := K) rfl (VL.hu64 hu)) (pe_ix (VL.ix_seqK (K := K) rfl) (pv 3) pe_int (fun _ _ => rfl)) (pv 1) (nomark _)))) (fun _ _ _ _ _ => (pe_tup (pa_cons (pe_ix (VL.ix_seqK (K := K) rfl) (pv 3) pe_int (fun _ _ => rfl)) (pa_cons (pv 2) pa_nil))))) pa_nil)))), ?_⟩)
  apply VL.wvI
  · intro B; walk_at "vi"
  · intro ts Qv Xv h
    obtain ⟨b, ns, z, rfl, l3, k⟩ := h
    cases b
    all_goals
      walk_at "V"
      refine lc_ts (fun i out => ∃ ps : List (Int × Int), out = ps.map tR2 ∧ ps.length ≤ i ∧ ∀ d, d ∈ ps.map Prod.fst ↔ (d, z) ∈ ns.take i) ⟨[], rfl, Nat.zero_le _, by simp⟩ ?_ ?_
      · rintro i t _ ht ⟨ps, rfl, pl, pm⟩
        rw [enumT_at, List.getElem?_map] at ht
        cases hp : ns[i]? with
        | none => rw [hp] at ht; cases ht
        | some p =>
          rw [hp] at ht
          cases ht
          have il := (List.getElem?_eq_some_iff.mp hp).1
          walk_at "V"
          by_cases h : p.2 = z
          · rw [decide_eq_true h]
            walk_at "V"
            refine NL.mk _ (by walk_at "le") ⟨ps ++ [(p.1, 0 + (i : Int))], by rw [List.map_append]; rfl, by rw [List.length_append]; show _ + 1 ≤ _; omega, fun d => ?_⟩
            rw [List.map_append, List.mem_append, pm, XR.take_one hp, List.mem_append]
            refine or_congr Iff.rfl ?_
            rw [List.map_cons, List.map_nil, List.mem_singleton, List.mem_singleton]
            constructor
            · rintro rfl
              exact Prod.ext rfl h.symm
            · intro e
              exact congrArg Prod.fst e
          · rw [decide_eq_false h]
            walk_at "V"
            refine NL.mk _ (by walk_at "le") ⟨ps, rfl, Nat.le_succ_of_le pl, fun d => ?_⟩
            rw [pm, XR.take_one hp, List.mem_append, List.mem_singleton]
            constructor
            · exact .inl
            · rintro (h2 | h2)
              · exact h2
              · exact absurd (congrArg Prod.snd h2).symm h
      · rintro _ ⟨ps, rfl, pl, pm⟩
        rw [enumT_len, List.length_map] at pl pm
        rw [List.take_length] at pm
        walk_at "V"
        refine k (srtP ps) (srtP_ord ps) (fun d => ?_) (by rw [(srtP_perm ps).length_eq]; omega)
        rw [((srtP_perm ps).map Prod.fst).mem_iff]
        exact pm d
def spAround (D : Ad) : VSp := fun vs Q _ => ∃ (ds : List Int), vs = [.lst (ds.map VL.T.int)] ∧ 0 < ds.length ∧ ds.length ≤ 300 ∧ ∀ a b, a ∈ ds → b ∈ ds → (∀ d ∈ ds, a ≤ d ∧ d ≤ b) → Q (.new (tSt D (a, b))) []
theorem sc_Stay_around : FnScope ["days"] ["days"] (defScope s_Stay_around) := ⟨rfl, rfl, rfl, by decide +kernel, rfl, by decide +kernel, by decide +kernel⟩
theorem ok_Stay_around (T : Txt K mg D) : FnOk P w K mg base (L2.CX P w) 5 D.a_Stay_around D.d_Stay_around ["days"] (vsp K [false] (spAround D)) := by
  have G_Stay_init := ok_Stay_init (P := P) (w := w) (base := base) T
  refine VL.okVX T.F_Stay_around sc_Stay_around rfl (by decide) (fun cdv A outer s H E hr => have hu := VL.huR hr; ⟨_, (pss_cons (ps_if (pt_cmpR (op_eqD (VL.hu64 hu)) (pe_callB VL.call_lenU (by rfl) T.n_len (by decide +kernel) (pa_cons (pv 0) pa_nil)) pe_int (nomark _))
      (pss_one (VL.ps_raiseU (t := VL.tMk0 D.c_NoDays) rfl (takes_of rfl rfl rfl rfl) (XR.pmk_own0 PySem.F.excBase_ValueError T.xq_NoDays T.g_NoDays T.k_NoDays (raises_own T.xbe_NoDays T.xty_NoDays) (by rfl))))
      pss_nil)
      (pss_one (ps_ret (pe_make (T_mk_Stay T) G_Stay_init (hr.mono (by decide)) (by rfl) T.g_Stay T.b_Stay_init .nil (passes_call (takes_of rfl rfl rfl rfl) (fun _ _ _ _ z => z)) (pa_cons (pe_callB (XR.cr_minQ rfl) (by rfl) T.n_min (by decide +kernel) (pa_cons (pv 0) pa_nil)) (pa_cons (pe_callB (XR.cr_maxQ rfl) (by rfl) T.n_max (by decide +kernel) (pa_cons (pv 0) pa_nil)) pa_nil)))))), ?_⟩)
  apply VL.wvI
  · intro B; walk_at "vi"
  · intro ts Qv Xv h
    obtain ⟨ds, rfl, d0, l3, k⟩ := h
    walk_at "V"
    walk_at "vb"
    · exact absurd hbr (by rw [List.length_map]; omega)
    walk_at "V"
    refine fun a a1 a2 => ?_
    walk_at "V"
    refine fun b b1 b2 => ?_
    walk_at "V"
    refine ⟨a, b, rfl, fun z => ?_, fun _ => ?_⟩
    · exact absurd (b2 a a1) (by omega)
    walk_at "V"
    exact k a b a1 b1 fun d hd => ⟨a2 d hd, b2 d hd⟩
end
end Toy
set_option Elab.async false
set_option linter.all false
set_option maxRecDepth 100000
set_option maxHeartbeats 4000000
set_option synthInstance.maxSize 1000000
set_option synthInstance.maxHeartbeats 4000000
namespace Toy
open PySem L2 XR VL
local macro_rules | `(tactic| walk_at "ne") => `(tactic| first | assumption | (apply Ne.symm; assumption) | exact XR.ne_fresh (by assumption) (by walk_at "hp") | exact Ne.symm (XR.ne_fresh (by assumption) (by walk_at "hp")))
local macro_rules | `(tactic| walk_at "hp") => `(tactic| first | assumption | exact upd_same | (refine Eq.trans (upd_ne ?_) ?_; (walk_at "ne"); walk_at "hp"))
local macro_rules | `(tactic| walk_at "sq") => `(tactic| first | walk_at "hp" | exact SqL.of (by walk_at "hp") | exact SqT.of (by walk_at "hp") | exact XR.SqT.same (by assumption) (by assumption) | exact XR.SqL.same (by assumption) (by assumption))
local macro_rules | `(tactic| walk_at "br") => `(tactic| (refine ite2 ?_ ?_ <;> intro hbr <;> (try simp only [decide_eq_true_eq, decide_eq_false_iff_not, V.int.injEq, V.bl.injEq, V.str.injEq, Bool.not_eq_true, Bool.not_eq_eq_eq_not, Bool.not_true, Bool.not_false, ne_eq, Int.reduceToNat, Int.reducePow, Int.reduceMul, Int.reduceAdd, Int.reduceSub, reduceCtorEq, not_true_eq_false, not_false_eq_true, Int.not_lt, Int.not_le] at hbr)))
local macro_rules | `(tactic| walk_at "side") => `(tactic| first
  | exact ⟨by decide, by decide, by decide⟩
  | exact .inl ⟨by decide, by decide⟩
  | exact .inr ⟨by decide, by decide⟩
  | exact XR.divw (by first | decide | omega) (by first | decide | omega)
  | (show (_ : Int) = _; first | rfl | omega)
  | (show (0 : Int) < _; first | decide | assumption | omega)
  | exact .inl ⟨by omega, by omega⟩
  | exact .inr ⟨by omega, by omega⟩
  | exact .inl (XR.cmul_mod (by decide))
  | exact XR.log_lt (by omega) (by omega)
  | decide
  | (rw [sizeLine_eq]; simp; done)
  | (show 2 ≤ sizeLine; decide) | (show 3 ≤ sizeLine; decide) | (show 4 ≤ sizeLine; decide) | (show 5 ≤ sizeLine; decide) | (show 6 ≤ sizeLine; decide) | (show 7 ≤ sizeLine; decide) | (show 1 ≤ sizeLine; decide) | (show 8 ≤ sizeLine; decide) | (show 0 ≤ sizeLine; decide))
local macro_rules | `(tactic| walk_at "rd1") => `(tactic| first
  | refine ⟨_, rfl, ?_⟩
  | refine ⟨_, _, rfl, rfl, ?_⟩
  | refine ⟨_, _, _, _, rfl, rfl, (by walk_at "sq"), rfl, ?_⟩
  | refine ⟨_, _, _, _, rfl, rfl, (by walk_at "hp"), (by walk_at "hp"), (by walk_at "side"), ?_⟩
  | refine ⟨_, _, rfl, .inl (by walk_at "sq"), ?_⟩
  | refine ⟨_, _, rfl, .inl ⟨(by walk_at "sq"), ?_⟩⟩
  | refine ⟨_, _, rfl, .inr (by walk_at "sq"), ?_⟩
  | refine ⟨_, _, _, _, _, rfl, (by walk_at "hp"), (by walk_at "cls"), (by walk_at "noat"), rfl, ?_⟩
  | refine ⟨_, _, _, _, rfl, rfl, (by walk_at "sq"), (by first | assumption | exact XR.at0 | exact XR.at1), ?_⟩
  | refine ⟨rfl, ?_⟩
  | refine And.intro (by walk_at "side") ?_
  | refine .inl ⟨_, rfl, ?_⟩
  | refine And.intro ⟨_, (by walk_at "sq")⟩ ?_
  | refine ⟨_, _, rfl, (by walk_at "sq"), ?_⟩
  | refine ⟨_, _, rfl, ?_⟩
  | refine .inr ⟨_, rfl, (by walk_at "side"), ?_⟩
  | refine ⟨_, _, _, rfl, (by walk_at "hp"), ?_⟩
  | refine iteT ?_
  | refine iteF ?_)
local macro_rules | `(tactic| walk_at "rd") => `(tactic| repeat (walk_at "rd1"))
local macro_rules | `(tactic| walk_at "nn") => `(tactic| (simp only [Int.reduceToNat, Int.reducePow, Int.reduceMul, Int.reduceAdd, Int.reduceSub, Int.reduceNeg]))
local macro_rules | `(tactic| walk_at "dr") => `(tactic| repeat (first | refine And.intro (by first | assumption | walk_at "pre") ?_ | refine And.intro (by first | decide | omega) ?_))
local macro_rules | `(tactic| walk_at "vi") => `(tactic| ((try dsimp only [L2.cxOf, L2.Cx.nox, L2.Cx.wish, L2.Cx.blk, L2.Cx.suite, L2.Cx.tr, L2H.cxH, List.map_cons, List.map_nil]); (try simp only [List.map_cons, List.map_nil]); infer_instance))
local macro_rules | `(tactic| walk_at "w") => `(tactic| conv => whnf)
local macro_rules | `(tactic| walk_at "sz") => `(tactic| first
  | (show _ ≤ sizeLine; rw [sizeLine_eq]; first | decide | omega | (simp; done) | (simp; omega))
  | (show _ < sizeLine; rw [sizeLine_eq]; first | decide | omega | (simp; done) | (simp; omega)))
local macro_rules | `(tactic| walk_at "ok") => `(tactic| first
  | exact encInt.list.ok (by decide) _ | exact encInt.tupl.ok (by decide) _ | exact encStr.list.ok (by decide) _ | exact encStr.tupl.ok (by decide) _
  | exact (encInt.pair encInt).list.ok (by decide) _ | exact (encInt.pair encInt).ok (by decide) _ | exact (encStr.pair encStr).list.ok (by decide) _ | exact (encStr.pair encStr).ok (by decide) _
  | exact encInt.tupl.list.ok (by decide) _)
local macro_rules | `(tactic| walk_at "vs") => `(tactic| first
  | exact trivial
  | assumption
  | exact rfl
  | exact ⟨rfl, rfl⟩
  | walk_at "ok"
  | walk_at "sz"
  | exact .inl (.inr ⟨by decide, by decide⟩)
  | exact .inl (.inl ⟨by first | decide | omega, by first | decide | omega⟩)
  | exact .inl (.inr ⟨by first | decide | omega, by first | decide | omega⟩)
  | exact XR.divw (by first | decide | omega) (by first | decide | omega)
  | (show (0 : Int) < _; first | decide | omega)
  | exact ⟨by first | decide | omega, by first | decide | omega⟩
  | exact ⟨by first | decide | omega, by first | decide | omega, by first | decide | omega⟩
  | exact ⟨by walk_at "sz", by omega, by omega⟩
  | exact ⟨by walk_at "cls", by walk_at "noat"⟩
  | exact ⟨by walk_at "xf", by walk_at "xe"⟩
  | walk_at "exm"
  | decide
  | exact XR.log_lt (by omega) (by omega)
  | ((try dsimp only); (try simp only [List.length_map, List.length_append, List.length_cons, List.length_nil, List.length_eraseIdx]); omega))
local macro_rules | `(tactic| walk_at "v") => `(tactic| (walk_at "w"; (repeat ((first | refine And.intro (by walk_at "vs") ?_ | refine isS_i (by assumption) ?_); walk_at "w")); (try walk_at "n")))
local macro_rules | `(tactic| walk_at "isi") => `(tactic| first | refine ⟨_, VL.IsI.int_int _, ?_⟩ | refine ⟨_, VL.IsI.int_bool _, ?_⟩ | refine ⟨_, VL.IsI.int_str _, ?_⟩ | refine ⟨_, VL.IsI.int_list _, ?_⟩ | refine ⟨_, VL.IsI.int_tuple _, ?_⟩ | refine ⟨_, VL.IsI.bl_int _, ?_⟩ | refine ⟨_, VL.IsI.bl_bool _, ?_⟩ | refine ⟨_, VL.IsI.bl_str _, ?_⟩ | refine ⟨_, VL.IsI.str_str _, ?_⟩ | refine ⟨_, VL.IsI.str_int _, ?_⟩ | refine ⟨_, VL.IsI.str_bool _, ?_⟩ | refine ⟨_, VL.IsI.lst_list _, ?_⟩ | refine ⟨_, VL.IsI.lst_tuple _, ?_⟩ | refine ⟨_, VL.IsI.tup_list _, ?_⟩ | refine ⟨_, VL.IsI.tup_tuple _, ?_⟩ | refine ⟨_, VL.IsI.tup_str _, ?_⟩ | refine ⟨_, VL.IsI.tup_int _, ?_⟩ | refine ⟨_, VL.IsI.dk_dict _, ?_⟩ | refine ⟨_, VL.IsI.non_int, ?_⟩ | refine ⟨_, VL.IsI.non_tuple, ?_⟩ | refine ⟨_, VL.IsI.non_list, ?_⟩ | refine ⟨_, VL.IsI.non_str, ?_⟩)
local macro_rules | `(tactic| walk_at "V") => `(tactic| (walk_at "w"; (repeat ((first | refine And.intro (by walk_at "vs") ?_ | refine isS_i (by assumption) ?_ | refine Or.inr ?_ | walk_at "isi" | walk_at "eis" | refine ⟨_, rfl, ?_⟩); walk_at "w")); (try walk_at "n")))
set_option hygiene false
local macro_rules | `(tactic| walk_at "vb") => `(tactic| (refine br_i ?_ ?_ <;> intro hbr <;> (try simp only [nb, decide_eq_true_eq, decide_eq_false_iff_not, Bool.not_eq_true, Bool.not_eq_eq_eq_not, Bool.not_true, Bool.not_false, ne_eq, Bool.and_eq_true, Bool.or_eq_true, Bool.and_eq_false_imp, Decidable.not_not, Int.not_lt, Int.not_le, bne_iff_ne, Bool.not_eq_false, Bool.or_eq_false_iff, reduceCtorEq, not_true_eq_false, not_false_eq_true] at hbr)))
set_option hygiene true
local macro_rules | `(tactic| walk_at "le") => `(tactic| exact VL.Le.to rfl (Nat.le_of_ble_eq_true rfl))
local macro_rules | `(tactic| walk_at "d") => `(tactic| dsimp only at *)
local macro_rules | `(tactic| walk_at "n") => `(tactic| dsimp only [VL.env0, VL.slots0, VL.mem0, VL.nones, VL.falses, VL.put_mk, VL.push_mk, VL.set_mk, VL.unset_mk, VL.wipe_nl, VL.wipe_cs, VL.el_mk, VL.frs_nl, VL.frs_cs, VL.fr_mk, VL.frX, VL.frSl, VL.nth, Nat.reduceAdd, Nat.reduceSub, Nat.reduceMul, Nat.reduceBEq, List.set, List.length_cons, List.length_nil, List.cons_append, List.nil_append, VL.qI, VL.qT, VL.qR])
local macro_rules | `(tactic| walk_at "cls") => `(tactic| first | exact T_cl_Stay (by assumption))
local macro_rules | `(tactic| walk_at "noat") => `(tactic| first | exact Txt.no_Stay_come (by assumption) | exact Txt.no_Stay_go (by assumption))
local macro_rules | `(tactic| walk_at "eis") => `(tactic| first | fail)
local macro_rules | `(tactic| walk_at "exm") => `(tactic| first | fail)
local macro_rules | `(tactic| walk_at "xf") => `(tactic| first | exact T_xf_EmptyStay (by assumption) | exact T_xf_OutOfRange (by assumption) | fail)
local macro_rules | `(tactic| walk_at "xe") => `(tactic| first | exact Txt.e_EmptyStay_come (by assumption) | exact Txt.e_EmptyStay_go (by assumption) | exact Txt.e_OutOfRange_value (by assumption) | fail)
local macro_rules | `(tactic| walk_at "isi") => `(tactic| first | refine ⟨_, VL.IsI.mk _ _ (.obj (fun _ _ _ _ e => T_ty_Stay (by assumption) e)) (.cls _) (Txt.zo_Stay_Stay (by assumption)), ?_⟩ | refine ⟨_, VL.IsI.mk _ _ (.obj (fun _ _ _ _ e => T_ty_Stay (by assumption) e)) (.ty _) (Txt.zo_Stay_bool (by assumption)), ?_⟩ | refine ⟨_, VL.IsI.mk _ _ (.obj (fun _ _ _ _ e => T_ty_Stay (by assumption) e)) (.ty _) (Txt.zo_Stay_int (by assumption)), ?_⟩ | refine ⟨_, VL.IsI.mk _ _ (.obj (fun _ _ _ _ e => T_ty_Stay (by assumption) e)) (.ty _) (Txt.zo_Stay_str (by assumption)), ?_⟩ | refine ⟨_, VL.IsI.mk _ _ (.obj (fun _ _ _ _ e => T_ty_Stay (by assumption) e)) (.ty _) (Txt.zo_Stay_tuple (by assumption)), ?_⟩)
local macro_rules | `(tactic| walk_at "vs") => `(tactic| exact Txt.nit (by assumption))
section
variable {P : Program} {w : World} {K : PySem.W.Frag} {mg : Str → Option Value} {base : Heap} {D : Ad}
/-! ### the greatest stretches without a shut day; what is least and greatest among the rows -/
theorem ltR_anti (a b : Int × Int) (h1 : ltR a b) (h2 : ltR b a) : a = b := by unfold ltR at *; omega
theorem ltR_nodup {xs : List (Int × Int)} (h : xs.Pairwise ltR) : xs.Nodup := h.imp fun {a b} z e => by subst e; unfold ltR at z; omega
theorem eq_of_mem {xs ys : List (Int × Int)} (h1 : xs.Pairwise ltR) (h2 : ys.Pairwise ltR) (m : ∀ c g, (c, g) ∈ xs ↔ (c, g) ∈ ys) : xs = ys :=
  ord_uniq ltR_anti ((List.perm_ext_iff_of_nodup (ltR_nodup h1) (ltR_nodup h2)).mpr fun a => m a.1 a.2) h1 h2
/-- a greatest stretch without a shut day -/
def Strch (l : Int) (sh : List Int) (c g : Int) : Prop := 0 ≤ c ∧ c ≤ g ∧ g ≤ l ∧ (∀ d ∈ sh, ¬ (c ≤ d ∧ d ≤ g)) ∧ (c = 0 ∨ c - 1 ∈ sh) ∧ (g = l ∨ g + 1 ∈ sh)
/-- behind the first away days: come, and the stretches that ended -/
structure Swept (l : Int) (sh A : List Int) (j : Nat) (come : Int) (s : List (Int × Int)) : Prop where
  c0 : 0 ≤ come
  left : come = 0 ∨ come - 1 ∈ sh ∨ come = l + 2
  rest : ∀ d ∈ sh, come ≤ d → d ∈ A.drop j
  low : ∀ a ∈ A.drop j, come - 1 ≤ a
  mem : ∀ c g, (c, g) ∈ s ↔ Strch l sh c g ∧ g + 1 < come
  ord : s.Pairwise ltR
  cov : ∀ d, 0 ≤ d → d ≤ l → d < come → d ∉ sh → ∃ p ∈ s, p.1 ≤ d ∧ d ≤ p.2
theorem Swept.start {l : Int} {sh A : List Int} (hl : 0 ≤ l) (h : ∀ d ∈ sh, d ∈ A) (h0 : ∀ a ∈ A, 0 ≤ a) : Swept l sh A 0 0 [] := by
  refine ⟨Int.le_refl _, .inl rfl, fun d hd _ => h d hd, fun a ha => ?_, fun c g => ⟨fun z => (by cases z), fun z => ?_⟩, List.Pairwise.nil, fun d d0 _ d1 => by omega⟩
  · have := h0 a ha
    omega
  · have := z.1.1
    have := z.1.2.1
    have := z.2
    omega
theorem Swept.step {l : Int} {sh A : List Int} {j : Nat} {come a : Int} {s : List (Int × Int)} (h : Swept l sh A j come s) (hl : 0 ≤ l) (hA : A.Pairwise (· ≤ ·)) (ha : A[j]? = some a) (al : a ≤ l + 1) (as : a ∈ sh ∨ a = l + 1) (shl : ∀ d ∈ sh, 0 ≤ d ∧ d ≤ l) :
    Swept l sh A (j + 1) (a + 1) (if come < a then s ++ [(come, a - 1)] else s) := by
  obtain ⟨hj, ej⟩ := List.getElem?_eq_some_iff.mp ha
  have dj : A.drop j = a :: A.drop (j + 1) := by rw [List.drop_eq_getElem_cons hj, ej]
  have pj : (a :: A.drop (j + 1)).Pairwise (· ≤ ·) := by rw [← dj]; exact hA.sublist (List.drop_sublist _ _)
  have up := (List.pairwise_cons.mp pj).1
  have ca := h.low a (by rw [dj]; exact List.mem_cons_self)
  have c0 := h.c0
  have nosh : ∀ d ∈ sh, come ≤ d → a ≤ d := fun d hd hc => by
    have := h.rest d hd hc
    rw [dj] at this
    rcases List.mem_cons.mp this with e | e
    · omega
    · exact up d e
  have newS : come < a → Strch l sh come (a - 1) := fun hc => by
    refine ⟨c0, by omega, by omega, fun d hd ⟨q1, q2⟩ => ?_, ?_, ?_⟩
    · have := nosh d hd q1
      omega
    · rcases h.left with e | e | e
      · exact .inl e
      · exact .inr e
      · omega
    · rcases as with e | e
      · exact .inr (by rw [show a - 1 + 1 = a by omega]; exact e)
      · exact .inl (by omega)
  refine ⟨by omega, ?_, fun d hd hc => ?_, fun b hb => ?_, fun c g => ?_, ?_, fun d d0 dl dc ds => ?_⟩
  · rcases as with e | e
    · exact .inr (.inl (by rw [show a + 1 - 1 = a by omega]; exact e))
    · exact .inr (.inr (by omega))
  · have := h.rest d hd (by omega)
    rw [dj] at this
    rcases List.mem_cons.mp this with e | e
    · omega
    · exact e
  · have := up b hb
    omega
  · have key : Strch l sh c g ∧ g + 1 < a + 1 ↔ (Strch l sh c g ∧ g + 1 < come) ∨ (come < a ∧ c = come ∧ g = a - 1) := by
      constructor
      · rintro ⟨st, hg⟩
        by_cases q : g + 1 < come
        · exact .inl ⟨st, q⟩
        · refine .inr ?_
          obtain ⟨s0, s1, s2, s3, s4, s5⟩ := st
          have g1 : come ≤ g := by
            rcases h.left with e | e | e
            · omega
            · by_cases z : g = come - 1
              · exact absurd ⟨by omega, by omega⟩ (s3 _ e)
              · omega
            · omega
          have ga : g + 1 = a := by
            rcases s5 with e | e
            · omega
            · have := nosh _ e (by omega)
              omega
          have cc : c = come := by
            rcases Int.lt_trichotomy c come with z | z | z
            · rcases h.left with e | e | e
              · omega
              · exact absurd ⟨by omega, by omega⟩ (s3 _ e)
              · omega
            · exact z
            · rcases s4 with e | e
              · omega
              · have := nosh _ e (by omega)
                omega
          exact ⟨by omega, cc, by omega⟩
      · rintro (⟨st, hg⟩ | ⟨h1, rfl, rfl⟩)
        · exact ⟨st, by omega⟩
        · exact ⟨newS h1, by omega⟩
    rw [key]
    split
    · rename_i hc
      rw [List.mem_append, h.mem, List.mem_singleton, Prod.mk.injEq]
      exact or_congr Iff.rfl ⟨fun z => ⟨hc, z⟩, fun z => z.2⟩
    · rename_i hc
      rw [h.mem]
      exact ⟨.inl, fun z => z.elim id fun q => absurd q.1 hc⟩
  · split
    · refine List.pairwise_append.mpr ⟨h.ord, List.pairwise_singleton _ _, fun p hp q hq => ?_⟩
      rw [List.mem_singleton.mp hq]
      obtain ⟨⟨_, s1, _⟩, hg⟩ := (h.mem p.1 p.2).mp hp
      exact .inl (by show p.1 < come; omega)
    · exact h.ord
  · by_cases q : d < come
    · obtain ⟨p, hp, hd⟩ := h.cov d d0 dl q ds
      refine ⟨p, ?_, hd⟩
      split
      · exact List.mem_append_left _ hp
      · exact hp
    · have da : d ≠ a := fun e => by
        rcases as with z | z
        · exact ds (e ▸ z)
        · omega
      have hc : come < a := by omega
      rw [if_pos hc]
      exact ⟨(come, a - 1), List.mem_append_right _ (List.mem_singleton.mpr rfl), by show come ≤ d; omega, by show d ≤ a - 1; omega⟩
def Holds (sn : List Int) (c g : Int) : Prop := ∀ d ∈ sn, c ≤ d ∧ d ≤ g
theorem big_iff {l c g : Int} {ns : List (Int × Bool)} : (Strch l (shutL ns) c g ∧ Holds (seenL ns) c g) ↔ Fit l ns c g ∧ ¬ Fit l ns (c - 1) g ∧ ¬ Fit l ns c (g + 1) := by
  constructor
  · rintro ⟨⟨s0, s1, s2, s3, s4, s5⟩, hs⟩
    refine ⟨fit_iff.mpr ⟨s0, s1, s2, s3, hs⟩, fun f => ?_, fun f => ?_⟩
    · rcases s4 with e | e
      · have := f.1
        omega
      · exact (fit_iff.mp f).2.2.2.1 _ e ⟨by omega, by omega⟩
    · rcases s5 with e | e
      · have := f.2.2.1
        omega
      · exact (fit_iff.mp f).2.2.2.1 _ e ⟨by omega, by omega⟩
  · rintro ⟨f, n1, n2⟩
    obtain ⟨s0, s1, s2, s3, hs⟩ := fit_iff.mp f
    refine ⟨⟨s0, s1, s2, s3, ?_, ?_⟩, hs⟩
    · by_cases e : c = 0
      · exact .inl e
      by_cases e2 : c - 1 ∈ shutL ns
      · exact .inr e2
      refine absurd (fit_iff.mpr ⟨by omega, by omega, s2, fun d hd ⟨q1, q2⟩ => ?_, fun d hd => ⟨by have := (hs d hd).1; omega, (hs d hd).2⟩⟩) n1
      by_cases z : d = c - 1
      · exact e2 (z ▸ hd)
      · exact s3 d hd ⟨by omega, q2⟩
    · by_cases e : g = l
      · exact .inl e
      by_cases e2 : g + 1 ∈ shutL ns
      · exact .inr e2
      refine absurd (fit_iff.mpr ⟨s0, by omega, by omega, fun d hd ⟨q1, q2⟩ => ?_, fun d hd => ⟨(hs d hd).1, by have := (hs d hd).2; omega⟩⟩) n2
      by_cases z : d = g + 1
      · exact e2 (z ▸ hd)
      · exact s3 d hd ⟨q1, by omega⟩
theorem mem_greatest {l : Int} {ns : List (Int × Bool)} {rows : List (Int × Int)} (R : Rows l ns rows) (c g : Int) : (c, g) ∈ greatest rows ↔ Strch l (shutL ns) c g ∧ Holds (seenL ns) c g := by
  rw [big_iff]
  unfold greatest
  rw [List.mem_filter, Bool.and_eq_true, decide_eq_true_eq, decide_eq_true_eq, R.mem, R.mem, R.mem]
theorem ord_greatest {l : Int} {ns : List (Int × Bool)} {rows : List (Int × Int)} (R : Rows l ns rows) : (greatest rows).Pairwise ltR := R.ord.sublist List.filter_sublist
theorem ord_least {l : Int} {ns : List (Int × Bool)} {rows : List (Int × Int)} (R : Rows l ns rows) : (least rows).Pairwise ltR := R.ord.sublist List.filter_sublist
theorem mem_least {l : Int} {ns : List (Int × Bool)} {rows : List (Int × Int)} (R : Rows l ns rows) (c g : Int) : (c, g) ∈ least rows ↔ Fit l ns c g ∧ ¬ Fit l ns (c + 1) g ∧ ¬ Fit l ns c (g - 1) := by
  unfold least
  rw [List.mem_filter, Bool.and_eq_true, decide_eq_true_eq, decide_eq_true_eq, R.mem, R.mem, R.mem]
/-- a smaller stay that holds all seen -/
theorem Fit.sub {l c g c' g' : Int} {ns : List (Int × Bool)} (f : Fit l ns c g) (h1 : c ≤ c') (h2 : c' ≤ g') (h3 : g' ≤ g) (h : Holds (seenL ns) c' g') : Fit l ns c' g' := by
  obtain ⟨s0, s1, s2, s3, _⟩ := fit_iff.mp f
  exact fit_iff.mpr ⟨by omega, h2, by omega, fun d hd ⟨q1, q2⟩ => s3 d hd ⟨by omega, by omega⟩, h⟩
theorem least_seen {l a b : Int} {ns : List (Int × Bool)} {rows : List (Int × Int)} (R : Rows l ns rows) (ha : a ∈ seenL ns) (hb : b ∈ seenL ns) (hab : Holds (seenL ns) a b) (ne : rows ≠ []) : least rows = [(a, b)] := by
  have fab : ∀ c g, Fit l ns c g → Fit l ns a b := fun c g f => by
    have h := (fit_iff.mp f).2.2.2.2
    exact f.sub (h a ha).1 (hab a ha).2 (h b hb).2 hab
  have f : Fit l ns a b := by
    obtain ⟨p, hp⟩ := List.exists_mem_of_ne_nil rows ne
    exact fab _ _ ((R.mem p.1 p.2).mp hp)
  refine eq_of_mem (ord_least R) (List.pairwise_singleton _ _) fun c g => ?_
  rw [mem_least R, List.mem_singleton, Prod.mk.injEq]
  constructor
  · rintro ⟨q, n1, n2⟩
    have h := (fit_iff.mp q).2.2.2.2
    have h1 := h a ha
    have h2 := h b hb
    have h3 := (hab a ha).2
    constructor
    · by_cases e : c = a
      · exact e
      · exact absurd (q.sub (c' := c + 1) (g' := g) (by omega) (by omega) (Int.le_refl _) fun d hd => ⟨by have := (hab d hd).1; omega, (h d hd).2⟩) n1
    · by_cases e : g = b
      · exact e
      · exact absurd (q.sub (c' := c) (g' := g - 1) (Int.le_refl _) (by omega) (by omega) fun d hd => ⟨(h d hd).1, by have := (hab d hd).2; omega⟩) n2
  · rintro ⟨rfl, rfl⟩
    refine ⟨f, fun q => ?_, fun q => ?_⟩
    · have := ((fit_iff.mp q).2.2.2.2 _ ha).1
      omega
    · have := ((fit_iff.mp q).2.2.2.2 _ hb).2
      omega
/-- no day is seen: the single days -/
theorem mem_free {l : Int} {ns : List (Int × Bool)} {rows : List (Int × Int)} (R : Rows l ns rows) (hs : seenL ns = []) (c g : Int) : (c, g) ∈ least rows ↔ c = g ∧ Fit l ns c c := by
  have h0 : ∀ c g, Holds (seenL ns) c g := fun c g d hd => by rw [hs] at hd; cases hd
  rw [mem_least R]
  constructor
  · rintro ⟨q, n1, n2⟩
    have := q.2.1
    by_cases e : c = g
    · subst e
      exact ⟨rfl, q⟩
    · exact absurd (q.sub (c' := c + 1) (g' := g) (by omega) (by omega) (Int.le_refl _) (h0 _ _)) n1
  · rintro ⟨rfl, q⟩
    refine ⟨q, fun z => ?_, fun z => ?_⟩
    · have := z.2.1
      omega
    · have := z.2.1
      omega
/-- each row lies in a greatest one -/
theorem in_big {l c g : Int} {ns : List (Int × Bool)} {s : List (Int × Int)} (hm : ∀ c g, (c, g) ∈ s ↔ Strch l (shutL ns) c g) (cov : ∀ d, 0 ≤ d → d ≤ l → d ∉ shutL ns → ∃ p ∈ s, p.1 ≤ d ∧ d ≤ p.2) (f : Fit l ns c g) : ∃ p ∈ s, p.1 ≤ c ∧ g ≤ p.2 ∧ Holds (seenL ns) p.1 p.2 := by
  obtain ⟨s0, s1, s2, s3, hs⟩ := fit_iff.mp f
  obtain ⟨p, hp, h1, h2⟩ := cov c s0 (by omega) fun z => s3 c z ⟨Int.le_refl _, s1⟩
  obtain ⟨_, _, t2, t3, _, t5⟩ := (hm p.1 p.2).mp hp
  have hg : g ≤ p.2 := by
    rcases t5 with e | e
    · omega
    · by_cases z : g ≤ p.2
      · exact z
      · exact absurd ⟨by omega, by omega⟩ (s3 _ e)
  exact ⟨p, hp, h1, hg, fun d hd => ⟨by have := (hs d hd).1; omega, by have := (hs d hd).2; omega⟩⟩
theorem grow_r {l c : Int} {ns : List (Int × Bool)} : ∀ (n : Nat) (g : Int), (l - g).toNat = n → Fit l ns c g → ∃ g', g ≤ g' ∧ Fit l ns c g' ∧ ¬ Fit l ns c (g' + 1)
  | 0, g, hn, f => ⟨g, Int.le_refl _, f, fun z => by have := z.2.2.1; have := f.2.2.1; omega⟩
  | n + 1, g, hn, f => by
    by_cases h : Fit l ns c (g + 1)
    · obtain ⟨g', h1, h2, h3⟩ := grow_r n (g + 1) (by omega) h
      exact ⟨g', by omega, h2, h3⟩
    · exact ⟨g, Int.le_refl _, f, h⟩
theorem grow_l {l g : Int} {ns : List (Int × Bool)} : ∀ (n : Nat) (c : Int), c.toNat = n → Fit l ns c g → ∃ c', c' ≤ c ∧ Fit l ns c' g ∧ ¬ Fit l ns (c' - 1) g
  | 0, c, hn, f => ⟨c, Int.le_refl _, f, fun z => by have := z.1; have := f.1; omega⟩
  | n + 1, c, hn, f => by
    by_cases h : Fit l ns (c - 1) g
    · obtain ⟨c', h1, h2, h3⟩ := grow_l n (c - 1) (by omega) h
      exact ⟨c', by omega, h2, h3⟩
    · exact ⟨c, Int.le_refl _, f, h⟩
/-- each row lies in a greatest one, and holds a least one -/
theorem big_of {l : Int} {ns : List (Int × Bool)} {rows : List (Int × Int)} (R : Rows l ns rows) {c g : Int} (f : Fit l ns c g) : ∃ p ∈ greatest rows, p.1 ≤ c ∧ g ≤ p.2 := by
  obtain ⟨g', h1, h2, h3⟩ := grow_r _ g rfl f
  obtain ⟨c', k1, k2, k3⟩ := grow_l _ c rfl h2
  refine ⟨(c', g'), (mem_greatest R c' g').mpr (big_iff.mpr ⟨k2, k3, fun z => h3 ?_⟩), k1, h1⟩
  exact z.sub k1 (by have := h2.2.1; omega) (Int.le_refl _) fun d hd => ⟨((fit_iff.mp h2).2.2.2.2 d hd).1, by have := ((fit_iff.mp h2).2.2.2.2 d hd).2; omega⟩
theorem shrink_r {l c : Int} {ns : List (Int × Bool)} : ∀ (n : Nat) (g : Int), (g - c).toNat = n → Fit l ns c g → ∃ g', g' ≤ g ∧ Fit l ns c g' ∧ ¬ Fit l ns c (g' - 1)
  | 0, g, hn, f => ⟨g, Int.le_refl _, f, fun z => by have := z.2.1; have := f.2.1; omega⟩
  | n + 1, g, hn, f => by
    by_cases h : Fit l ns c (g - 1)
    · obtain ⟨g', h1, h2, h3⟩ := shrink_r n (g - 1) (by omega) h
      exact ⟨g', by omega, h2, h3⟩
    · exact ⟨g, Int.le_refl _, f, h⟩
theorem shrink_l {l g : Int} {ns : List (Int × Bool)} : ∀ (n : Nat) (c : Int), (g - c).toNat = n → Fit l ns c g → ∃ c', c ≤ c' ∧ Fit l ns c' g ∧ ¬ Fit l ns (c' + 1) g
  | 0, c, hn, f => ⟨c, Int.le_refl _, f, fun z => by have := z.2.1; have := f.2.1; omega⟩
  | n + 1, c, hn, f => by
    by_cases h : Fit l ns (c + 1) g
    · obtain ⟨c', h1, h2, h3⟩ := shrink_l n (c + 1) (by omega) h
      exact ⟨c', by omega, h2, h3⟩
    · exact ⟨c, Int.le_refl _, f, h⟩
theorem small_of {l : Int} {ns : List (Int × Bool)} {rows : List (Int × Int)} (R : Rows l ns rows) {c g : Int} (f : Fit l ns c g) : ∃ p ∈ least rows, c ≤ p.1 ∧ p.2 ≤ g := by
  obtain ⟨g', h1, h2, h3⟩ := shrink_r _ g rfl f
  obtain ⟨c', k1, k2, k3⟩ := shrink_l _ c rfl h2
  refine ⟨(c', g'), (mem_least R c' g').mpr ⟨k2, k3, fun z => h3 ?_⟩, k1, h1⟩
  have hz := (fit_iff.mp z).2.2.2.2
  have hk := (fit_iff.mp h2).2.2.2.2
  exact h2.sub (Int.le_refl _) (by have := z.2.1; omega) (by omega) fun d hd => ⟨(hk d hd).1, (hz d hd).2⟩
theorem greatest_nil {l : Int} {ns : List (Int × Bool)} {rows : List (Int × Int)} (R : Rows l ns rows) : greatest rows = [] ↔ rows = [] := by
  constructor
  · intro h
    cases rows with
    | nil => rfl
    | cons p r =>
      obtain ⟨q, hq, _⟩ := big_of R ((R.mem p.1 p.2).mp List.mem_cons_self)
      rw [h] at hq
      cases hq
  · rintro rfl
    rfl
/-- the single days of stretches -/
def daysOf (p : Int × Int) : List (Int × Int) := (List.range (p.2 + 1 - p.1).toNat).map fun (k : Nat) => (p.1 + (k : Int), p.1 + (k : Int))
theorem mem_daysOf {p : Int × Int} {c g : Int} : (c, g) ∈ daysOf p ↔ c = g ∧ p.1 ≤ c ∧ c ≤ p.2 := by
  unfold daysOf
  rw [List.mem_map]
  constructor
  · rintro ⟨k, hk, e⟩
    have := List.mem_range.mp hk
    have e1 := congrArg Prod.fst e
    have e2 := congrArg Prod.snd e
    dsimp only at e1 e2
    omega
  · rintro ⟨rfl, h1, h2⟩
    exact ⟨(c - p.1).toNat, List.mem_range.mpr (by omega), by rw [Prod.mk.injEq]; omega⟩
theorem days_least {l : Int} {ns : List (Int × Bool)} {rows : List (Int × Int)} (R : Rows l ns rows) (hs : seenL ns = []) : (greatest rows).flatMap daysOf = least rows := by
  have h0 : ∀ c g, Holds (seenL ns) c g := fun c g d hd => by rw [hs] at hd; cases hd
  refine eq_of_mem ?_ (ord_least R) fun c g => ?_
  · rw [List.pairwise_flatMap]
    refine ⟨fun p hp => ?_, ?_⟩
    · unfold daysOf
      exact List.pairwise_map.mpr (List.pairwise_lt_range.imp fun {a b} h => .inl (by show p.1 + (a : Int) < p.1 + (b : Int); omega))
    · refine (ord_greatest R).imp_of_mem fun {p q} hp hq hpq => ?_
      rintro ⟨x1, x2⟩ hx ⟨y1, y2⟩ hy
      obtain ⟨rfl, a1, a2⟩ := mem_daysOf.mp hx
      obtain ⟨rfl, b1, b2⟩ := mem_daysOf.mp hy
      obtain ⟨⟨s0, s1, s2, s3, s4, s5⟩, _⟩ := (mem_greatest R p.1 p.2).mp hp
      obtain ⟨⟨t0, t1, t2, t3, t4, t5⟩, _⟩ := (mem_greatest R q.1 q.2).mp hq
      refine .inl ?_
      show x1 < y1
      rcases hpq with h | ⟨h, h'⟩
      · rcases t4 with e | e
        · omega
        · have : ¬ (p.1 ≤ q.1 - 1 ∧ q.1 - 1 ≤ p.2) := s3 _ e
          omega
      · rcases s5 with e | e
        · omega
        · have : ¬ (q.1 ≤ p.2 + 1 ∧ p.2 + 1 ≤ q.2) := t3 _ e
          omega
  · rw [List.mem_flatMap, mem_free R hs]
    constructor
    · rintro ⟨p, hp, hd⟩
      obtain ⟨e, h1, h2⟩ := mem_daysOf.mp hd
      refine ⟨e, ?_⟩
      have f := (big_iff.mp ((mem_greatest R p.1 p.2).mp hp)).1
      exact f.sub h1 (Int.le_refl _) h2 (h0 _ _)
    · rintro ⟨e, f⟩
      obtain ⟨p, hp, h1, h2⟩ := big_of R f
      exact ⟨p, hp, mem_daysOf.mpr ⟨e, h1, h2⟩⟩
end
end Toy
set_option Elab.async false
set_option linter.all false
set_option maxRecDepth 100000
set_option maxHeartbeats 4000000
set_option synthInstance.maxSize 1000000
set_option synthInstance.maxHeartbeats 4000000
namespace Toy
open PySem L2 XR VL
local macro_rules | `(tactic| walk_at "ne") => `(tactic| first | assumption | (apply Ne.symm; assumption) | exact XR.ne_fresh (by assumption) (by walk_at "hp") | exact Ne.symm (XR.ne_fresh (by assumption) (by walk_at "hp")))
local macro_rules | `(tactic| walk_at "hp") => `(tactic| first | assumption | exact upd_same | (refine Eq.trans (upd_ne ?_) ?_; (walk_at "ne"); walk_at "hp"))
local macro_rules | `(tactic| walk_at "sq") => `(tactic| first | walk_at "hp" | exact SqL.of (by walk_at "hp") | exact SqT.of (by walk_at "hp") | exact XR.SqT.same (by assumption) (by assumption) | exact XR.SqL.same (by assumption) (by assumption))
local macro_rules | `(tactic| walk_at "br") => `(tactic| (refine ite2 ?_ ?_ <;> intro hbr <;> (try simp only [decide_eq_true_eq, decide_eq_false_iff_not, V.int.injEq, V.bl.injEq, V.str.injEq, Bool.not_eq_true, Bool.not_eq_eq_eq_not, Bool.not_true, Bool.not_false, ne_eq, Int.reduceToNat, Int.reducePow, Int.reduceMul, Int.reduceAdd, Int.reduceSub, reduceCtorEq, not_true_eq_false, not_false_eq_true, Int.not_lt, Int.not_le] at hbr)))
local macro_rules | `(tactic| walk_at "side") => `(tactic| first
  | exact ⟨by decide, by decide, by decide⟩
  | exact .inl ⟨by decide, by decide⟩
  | exact .inr ⟨by decide, by decide⟩
  | exact XR.divw (by first | decide | omega) (by first | decide | omega)
  | (show (_ : Int) = _; first | rfl | omega)
  | (show (0 : Int) < _; first | decide | assumption | omega)
  | exact .inl ⟨by omega, by omega⟩
  | exact .inr ⟨by omega, by omega⟩
  | exact .inl (XR.cmul_mod (by decide))
  | exact XR.log_lt (by omega) (by omega)
  | decide
  | (rw [sizeLine_eq]; simp; done)
  | (show 2 ≤ sizeLine; decide) | (show 3 ≤ sizeLine; decide) | (show 4 ≤ sizeLine; decide) | (show 5 ≤ sizeLine; decide) | (show 6 ≤ sizeLine; decide) | (show 7 ≤ sizeLine; decide) | (show 1 ≤ sizeLine; decide) | (show 8 ≤ sizeLine; decide) | (show 0 ≤ sizeLine; decide))
local macro_rules | `(tactic| walk_at "rd1") => `(tactic| first
  | refine ⟨_, rfl, ?_⟩
  | refine ⟨_, _, rfl, rfl, ?_⟩
  | refine ⟨_, _, _, _, rfl, rfl, (by walk_at "sq"), rfl, ?_⟩
  | refine ⟨_, _, _, _, rfl, rfl, (by walk_at "hp"), (by walk_at "hp"), (by walk_at "side"), ?_⟩
  | refine ⟨_, _, rfl, .inl (by walk_at "sq"), ?_⟩
  | refine ⟨_, _, rfl, .inl ⟨(by walk_at "sq"), ?_⟩⟩
  | refine ⟨_, _, rfl, .inr (by walk_at "sq"), ?_⟩
  | refine ⟨_, _, _, _, _, rfl, (by walk_at "hp"), (by walk_at "cls"), (by walk_at "noat"), rfl, ?_⟩
  | refine ⟨_, _, _, _, rfl, rfl, (by walk_at "sq"), (by first | assumption | exact XR.at0 | exact XR.at1), ?_⟩
  | refine ⟨rfl, ?_⟩
  | refine And.intro (by walk_at "side") ?_
  | refine .inl ⟨_, rfl, ?_⟩
  | refine And.intro ⟨_, (by walk_at "sq")⟩ ?_
  | refine ⟨_, _, rfl, (by walk_at "sq"), ?_⟩
  | refine ⟨_, _, rfl, ?_⟩
  | refine .inr ⟨_, rfl, (by walk_at "side"), ?_⟩
  | refine ⟨_, _, _, rfl, (by walk_at "hp"), ?_⟩
  | refine iteT ?_
  | refine iteF ?_)
local macro_rules | `(tactic| walk_at "rd") => `(tactic| repeat (walk_at "rd1"))
local macro_rules | `(tactic| walk_at "nn") => `(tactic| (simp only [Int.reduceToNat, Int.reducePow, Int.reduceMul, Int.reduceAdd, Int.reduceSub, Int.reduceNeg]))
local macro_rules | `(tactic| walk_at "dr") => `(tactic| repeat (first | refine And.intro (by first | assumption | walk_at "pre") ?_ | refine And.intro (by first | decide | omega) ?_))
local macro_rules | `(tactic| walk_at "vi") => `(tactic| ((try dsimp only [L2.cxOf, L2.Cx.nox, L2.Cx.wish, L2.Cx.blk, L2.Cx.suite, L2.Cx.tr, L2H.cxH, List.map_cons, List.map_nil]); (try simp only [List.map_cons, List.map_nil]); infer_instance))
local macro_rules | `(tactic| walk_at "w") => `(tactic| conv => whnf)
local macro_rules | `(tactic| walk_at "sz") => `(tactic| first
  | (show _ ≤ sizeLine; rw [sizeLine_eq]; first | decide | omega | (simp; done) | (simp; omega))
  | (show _ < sizeLine; rw [sizeLine_eq]; first | decide | omega | (simp; done) | (simp; omega)))
local macro_rules | `(tactic| walk_at "ok") => `(tactic| first
  | exact encInt.list.ok (by decide) _ | exact encInt.tupl.ok (by decide) _ | exact encStr.list.ok (by decide) _ | exact encStr.tupl.ok (by decide) _
  | exact (encInt.pair encInt).list.ok (by decide) _ | exact (encInt.pair encInt).ok (by decide) _ | exact (encStr.pair encStr).list.ok (by decide) _ | exact (encStr.pair encStr).ok (by decide) _
  | exact encInt.tupl.list.ok (by decide) _)
local macro_rules | `(tactic| walk_at "vs") => `(tactic| first
  | exact trivial
  | assumption
  | exact rfl
  | exact ⟨rfl, rfl⟩
  | walk_at "ok"
  | walk_at "sz"
  | exact .inl (.inr ⟨by decide, by decide⟩)
  | exact .inl (.inl ⟨by first | decide | omega, by first | decide | omega⟩)
  | exact .inl (.inr ⟨by first | decide | omega, by first | decide | omega⟩)
  | exact XR.divw (by first | decide | omega) (by first | decide | omega)
  | (show (0 : Int) < _; first | decide | omega)
  | exact ⟨by first | decide | omega, by first | decide | omega⟩
  | exact ⟨by first | decide | omega, by first | decide | omega, by first | decide | omega⟩
  | exact ⟨by walk_at "sz", by omega, by omega⟩
  | exact ⟨by walk_at "cls", by walk_at "noat"⟩
  | exact ⟨by walk_at "xf", by walk_at "xe"⟩
  | walk_at "exm"
  | decide
  | exact XR.log_lt (by omega) (by omega)
  | ((try dsimp only); (try simp only [List.length_map, List.length_append, List.length_cons, List.length_nil, List.length_eraseIdx]); omega))
local macro_rules | `(tactic| walk_at "v") => `(tactic| (walk_at "w"; (repeat ((first | refine And.intro (by walk_at "vs") ?_ | refine isS_i (by assumption) ?_); walk_at "w")); (try walk_at "n")))
local macro_rules | `(tactic| walk_at "isi") => `(tactic| first | refine ⟨_, VL.IsI.int_int _, ?_⟩ | refine ⟨_, VL.IsI.int_bool _, ?_⟩ | refine ⟨_, VL.IsI.int_str _, ?_⟩ | refine ⟨_, VL.IsI.int_list _, ?_⟩ | refine ⟨_, VL.IsI.int_tuple _, ?_⟩ | refine ⟨_, VL.IsI.bl_int _, ?_⟩ | refine ⟨_, VL.IsI.bl_bool _, ?_⟩ | refine ⟨_, VL.IsI.bl_str _, ?_⟩ | refine ⟨_, VL.IsI.str_str _, ?_⟩ | refine ⟨_, VL.IsI.str_int _, ?_⟩ | refine ⟨_, VL.IsI.str_bool _, ?_⟩ | refine ⟨_, VL.IsI.lst_list _, ?_⟩ | refine ⟨_, VL.IsI.lst_tuple _, ?_⟩ | refine ⟨_, VL.IsI.tup_list _, ?_⟩ | refine ⟨_, VL.IsI.tup_tuple _, ?_⟩ | refine ⟨_, VL.IsI.tup_str _, ?_⟩ | refine ⟨_, VL.IsI.tup_int _, ?_⟩ | refine ⟨_, VL.IsI.dk_dict _, ?_⟩ | refine ⟨_, VL.IsI.non_int, ?_⟩ | refine ⟨_, VL.IsI.non_tuple, ?_⟩ | refine ⟨_, VL.IsI.non_list, ?_⟩ | refine ⟨_, VL.IsI.non_str, ?_⟩)
local macro_rules | `(tactic| walk_at "V") => `(tactic| (walk_at "w"; (repeat ((first | refine And.intro (by walk_at "vs") ?_ | refine isS_i (by assumption) ?_ | refine Or.inr ?_ | walk_at "isi" | walk_at "eis" | refine ⟨_, rfl, ?_⟩); walk_at "w")); (try walk_at "n")))
set_option hygiene false
local macro_rules | `(tactic| walk_at "vb") => `(tactic| (refine br_i ?_ ?_ <;> intro hbr <;> (try simp only [nb, decide_eq_true_eq, decide_eq_false_iff_not, Bool.not_eq_true, Bool.not_eq_eq_eq_not, Bool.not_true, Bool.not_false, ne_eq, Bool.and_eq_true, Bool.or_eq_true, Bool.and_eq_false_imp, Decidable.not_not, Int.not_lt, Int.not_le, bne_iff_ne, Bool.not_eq_false, Bool.or_eq_false_iff, reduceCtorEq, not_true_eq_false, not_false_eq_true] at hbr)))
set_option hygiene true
local macro_rules | `(tactic| walk_at "le") => `(tactic| exact VL.Le.to rfl (Nat.le_of_ble_eq_true rfl))
local macro_rules | `(tactic| walk_at "d") => `(tactic| dsimp only at *)
local macro_rules | `(tactic| walk_at "n") => `(tactic| dsimp only [VL.env0, VL.slots0, VL.mem0, VL.nones, VL.falses, VL.put_mk, VL.push_mk, VL.set_mk, VL.unset_mk, VL.wipe_nl, VL.wipe_cs, VL.el_mk, VL.frs_nl, VL.frs_cs, VL.fr_mk, VL.frX, VL.frSl, VL.nth, Nat.reduceAdd, Nat.reduceSub, Nat.reduceMul, Nat.reduceBEq, List.set, List.length_cons, List.length_nil, List.cons_append, List.nil_append, VL.qI, VL.qT, VL.qR])
local macro_rules | `(tactic| walk_at "cls") => `(tactic| first | exact T_cl_Stay (by assumption))
local macro_rules | `(tactic| walk_at "noat") => `(tactic| first | exact Txt.no_Stay_come (by assumption) | exact Txt.no_Stay_go (by assumption))
local macro_rules | `(tactic| walk_at "eis") => `(tactic| first | fail)
local macro_rules | `(tactic| walk_at "exm") => `(tactic| first | fail)
local macro_rules | `(tactic| walk_at "xf") => `(tactic| first | exact T_xf_EmptyStay (by assumption) | exact T_xf_OutOfRange (by assumption) | fail)
local macro_rules | `(tactic| walk_at "xe") => `(tactic| first | exact Txt.e_EmptyStay_come (by assumption) | exact Txt.e_EmptyStay_go (by assumption) | exact Txt.e_OutOfRange_value (by assumption) | fail)
local macro_rules | `(tactic| walk_at "isi") => `(tactic| first | refine ⟨_, VL.IsI.mk _ _ (.obj (fun _ _ _ _ e => T_ty_Stay (by assumption) e)) (.cls _) (Txt.zo_Stay_Stay (by assumption)), ?_⟩ | refine ⟨_, VL.IsI.mk _ _ (.obj (fun _ _ _ _ e => T_ty_Stay (by assumption) e)) (.ty _) (Txt.zo_Stay_bool (by assumption)), ?_⟩ | refine ⟨_, VL.IsI.mk _ _ (.obj (fun _ _ _ _ e => T_ty_Stay (by assumption) e)) (.ty _) (Txt.zo_Stay_int (by assumption)), ?_⟩ | refine ⟨_, VL.IsI.mk _ _ (.obj (fun _ _ _ _ e => T_ty_Stay (by assumption) e)) (.ty _) (Txt.zo_Stay_str (by assumption)), ?_⟩ | refine ⟨_, VL.IsI.mk _ _ (.obj (fun _ _ _ _ e => T_ty_Stay (by assumption) e)) (.ty _) (Txt.zo_Stay_tuple (by assumption)), ?_⟩)
local macro_rules | `(tactic| walk_at "vs") => `(tactic| exact Txt.nit (by assumption))
section
variable {P : Program} {w : World} {K : PySem.W.Frag} {mg : Str → Option Value} {base : Heap} {D : Ad}
local macro_rules | `(tactic| walk_at "vs") => `(tactic| exact VL.strOk_of _)
def spGreat (D : Ad) : VSp := fun vs Q _ => ∃ (b : Bool) (ns : List (Int × Bool)) (l : Int) (rows : List (Int × Int)), vs = [tSqN b (ns.map tN), .int l] ∧ NOk l ns ∧ 0 ≤ l ∧ l ≤ 60 ∧ Rows l ns rows ∧ Q (.new (.lst ((greatest rows).map (tSt D)))) []
theorem sc_greatest_stays : FnScope ["notes", "last", "stretches", "come", "away", "seen", "stretch", "day"] ["notes", "last"] (defScope s_greatest_stays) := ⟨rfl, rfl, rfl, by decide +kernel, rfl, by decide +kernel, by decide +kernel⟩
theorem ok_greatest_stays (T : Txt K mg D) : FnOk P w K mg base CX0 5 D.a_greatest_stays D.d_greatest_stays ["notes", "last"] (vsp K [false, false] (spGreat D)) := by
  have G_Stay___contains__ := ok_Stay___contains__ (P := P) (w := w) (base := base) T
  have G__days := ok__days (P := P) (w := w) (base := base) T
  have G__noted := ok__noted (P := P) (w := w) (base := base) T
  have G_Stay_init := ok_Stay_init (P := P) (w := w) (base := base) T
  have G__check_days := ok__check_days (P := P) (w := w) (base := base) T
  refine VL.okV T.F_greatest_stays sc_greatest_stays rfl (by decide) (fun cdv A outer s H E hr => have hu := VL.huR hr; ⟨_, (pss_cons (ps_expr (pe_call G__check_days (hr.mono (by decide)) (by rfl) T.g__check_days T.F__check_days.kp T.b__check_days .nil passL (pa_cons (pv 0) (pa_cons (pv 1) pa_nil))))
      (pss_cons (ps_set (i := 2) sc_greatest_stays.nd rfl (Or.inl rfl) (pe_lst pa_nil))
      (pss_cons (ps_set (i := 3) sc_greatest_stays.nd rfl (Or.inl rfl) pe_int)
      (pss_cons (ps_for PassesOwn.never rfl (VL.pi_dyn (pe_lst (VL.pa_starK (K := K) rfl (pe_call G__days (hr.mono (by decide)) (by rfl) T.g__days T.F__days.kp T.b__days .nil pass0 (pa_cons (pe_call G__noted (hr.mono (by decide)) (by rfl) T.g__noted T.F__noted.kp T.b__noted .nil pass0 (pa_cons (pv 0) (pa_cons pe_bl pa_nil))) pa_nil)) (pa_cons (pe_op VL.op_addU (pv 1) pe_int) pa_nil) (by rfl)))) (pg_name (i := 4) sc_greatest_stays.nd rfl (Or.inl rfl))
      (pss_cons (ps_if (pt_cmpR op_lt (pv 3) (pv 4) (nomark _))
      (pss_one (ps_expr (pe_bm PySem.F.plainAttrs_list PySem.F.slot_list_append PySem.F.type_list_append mt_append (pv 2) (pa_cons (pe_make (T_mk_Stay T) G_Stay_init (hr.mono (by decide)) (by rfl) T.g_Stay T.b_Stay_init .nil passL (pa_cons (pv 3) (pa_cons (pe_op op_sub (pv 4) pe_int) pa_nil))) pa_nil))))
      pss_nil)
      (pss_one (ps_set (i := 3) sc_greatest_stays.nd rfl (Or.inl rfl) (pe_op VL.op_addU (pv 4) pe_int)))))
      (pss_cons (ps_set (i := 5) sc_greatest_stays.nd rfl (Or.inr rfl) (pe_call G__days (hr.mono (by decide)) (by rfl) T.g__days T.F__days.kp T.b__days .nil pass0 (pa_cons (pe_call G__noted (hr.mono (by decide)) (by rfl) T.g__noted T.F__noted.kp T.b__noted .nil pass0 (pa_cons (pv 0) (pa_cons pe_bl pa_nil))) pa_nil)))
      (pss_one (ps_ret (pe_lc (own := [("stretch", 6)]) (g := gName 6) (by rfl) sc_greatest_stays.nd (VL.pi_dynL (pv 2)) (blkOk_by (own := [("stretch", 6)]) (N := ["notes", "last", "stretches", "come", "away", "seen", "stretch", "day"]) (sc := defScope s_greatest_stays) (by decide +kernel)) (fun _ _ _ _ _ => (pg_name (i := 6) sc_greatest_stays.nd rfl (Or.inr rfl))) (fun _ _ _ _ _ => (pts_one (pt_val (pe_callB (VL.cr_allK (K := K) rfl rfl) (by rfl) T.n_all (by decide +kernel) (pa_cons (pe_lc (own := [("day", 7)]) (g := gName 7) (tt := tYes) (by rfl) sc_greatest_stays.nd (VL.pi_dynK (K := K) rfl (pv 5)) (blkOk_by (by rfl)) (fun _ _ _ _ _ => (pg_name (i := 7) sc_greatest_stays.nd rfl (Or.inl rfl))) (fun _ _ _ _ _ => pts_nil) (fun _ _ _ _ _ => (pe_cmpR (XR.op_in_own (T_o_Stay___contains__ T) G_Stay___contains__ (hr.mono (by decide)) T.b_Stay___contains__ pass0) (pv 7) (pv 6) rfl))) pa_nil))))) (fun _ _ _ _ _ => (pv 6)))))))))), ?_⟩)
  apply VL.wvI
  · intro B; walk_at "vi"
  · intro ts Qv Xv h
    obtain ⟨b, ns, l, rows, rfl, ok, l0, l6, R, k⟩ := h
    have nl := ok.ln
    walk_at "V"
    refine ⟨b, ns, l, rfl, ok, ?_⟩
    walk_at "V"
    refine ⟨b, ns, false, rfl, nl, fun ps po pm pl => ?_⟩
    walk_at "V"
    try refine ⟨ps, rfl, pl, ?_⟩
    walk_at "V"
    refine toTs_vals ?_
    walk_at "V"
    obtain ⟨A, hA⟩ : ∃ A, A = ps.map Prod.fst ++ [l + 1] := ⟨_, rfl⟩
    have shl : ∀ d ∈ shutL ns, 0 ≤ d ∧ d ≤ l := fun d hd => ok.dr _ (mem_shut.mp hd)
    have inA : ∀ a ∈ A, a ∈ shutL ns ∨ a = l + 1 := fun a ha => by
      rw [hA] at ha
      rcases List.mem_append.mp ha with h | h
      · exact .inl (mem_shut.mpr ((pm a).mp h))
      · exact .inr (List.mem_singleton.mp h)
    have shA : ∀ d ∈ shutL ns, d ∈ A := fun d hd => by
      rw [hA]
      exact List.mem_append_left _ ((pm d).mpr (mem_shut.mp hd))
    have bA : ∀ a ∈ A, 0 ≤ a ∧ a ≤ l + 1 := fun a ha => by
      rcases inA a ha with h | h
      · have := shl a h
        omega
      · omega
    have oA : A.Pairwise (· ≤ ·) := by
      rw [hA]
      refine List.pairwise_append.mpr ⟨List.pairwise_map.mpr (po.imp fun {x y} h => by unfold leP at h; omega), List.pairwise_singleton _ _, fun x hx y hy => ?_⟩
      have := shl x (mem_shut.mpr ((pm x).mp hx))
      rw [List.mem_singleton.mp hy]
      omega
    have lA : A.length ≤ 301 := by rw [hA, List.length_append, List.length_map]; show _ + 1 ≤ _; omega
    have eA : A[A.length - 1]? = some (l + 1) := by
      rw [hA, List.length_append, List.length_singleton, Nat.add_sub_cancel, List.getElem?_append_right (Nat.le_refl _), Nat.sub_self]
      rfl
    have nA : 0 < A.length := by rw [hA, List.length_append]; exact Nat.succ_pos _
    rw [show (ps.map Prod.fst).map VL.T.int ++ [VL.T.int (l + 1)] = A.map VL.T.int by rw [hA, List.map_append]; rfl]
    clear hA
    refine for_mapF (β := Int × List (Int × Int)) (xs := A) (f := VL.T.int) (fun γ s => (γ.put 0 (.mu (.lst (s.2.map (tSt D))))).set 3 (.val (.int s.1))) (fun j s => Swept l (shutL ns) A j s.1 s.2 ∧ s.2.length ≤ j ∧ ∀ a, 0 < j → A[j - 1]? = some a → s.1 = a + 1) (Nx.mk (0, []) (by walk_at "le") ⟨Swept.start l0 shA fun a ha => (bA a ha).1, Nat.le_refl _, fun a h => absurd h (by omega)⟩) ?_ ?_
    · rintro j a ⟨come, s⟩ ha ⟨sw, sl, _⟩
      walk_at "d"
      have sl : s.length ≤ j := sl
      have hj := (List.getElem?_eq_some_iff.mp ha).1
      have am := List.mem_of_getElem? ha
      have st := sw.step l0 oA ha (bA a am).2 (inA a am) shl
      walk_at "V"
      walk_at "vb"
      · rw [if_pos hbr] at st
        walk_at "V"
        refine ⟨come, a - 1, rfl, fun z => absurd z (by omega), fun _ => ?_⟩
        walk_at "V"
        exact Nx.mk (_, s ++ [(come, a - 1)]) (by rw [List.map_append]; walk_at "le") ⟨st, by rw [List.length_append]; show _ + 1 ≤ _; omega, fun b _ e => by rw [Nat.add_sub_cancel, ha] at e; cases e; rfl⟩
      · rw [if_neg (by omega)] at st
        walk_at "V"
        exact Nx.mk (_, s) (by walk_at "le") ⟨st, Nat.le_succ_of_le sl, fun b _ e => by rw [Nat.add_sub_cancel, ha] at e; cases e; rfl⟩
    · rintro ⟨come, s⟩ ⟨sw, sl, hc⟩
      walk_at "d"
      have sl : s.length ≤ 301 := Nat.le_trans sl lA
      have hc : come = l + 2 := by
        have : come = l + 1 + 1 := hc (l + 1) nA eA
        omega
      have sm : ∀ c g, (c, g) ∈ s ↔ Strch l (shutL ns) c g := fun c g => by
        rw [sw.mem]
        refine ⟨fun h => h.1, fun h => ⟨h, ?_⟩⟩
        have := h.2.2.1
        omega
      walk_at "V"
      refine ⟨b, ns, true, rfl, nl, fun qs qo qm ql => ?_⟩
      walk_at "V"
      try refine ⟨qs, rfl, ql, ?_⟩
      walk_at "V"
      obtain ⟨q, hq⟩ : ∃ q : Int × Int → Bool, q = fun p => (qs.map Prod.fst).all fun d => decide (p.1 ≤ d ∧ d ≤ p.2) := ⟨_, rfl⟩
      refine lc_fr [5] (by walk_at "le") ?_
      walk_at "n"
      refine lc_live (fun _ => rfl) (fun i out => out = ((s.take i).filter q).map (tSt D)) rfl ?_ ?_
      · rintro i t _ ht rfl
        rw [List.getElem?_map] at ht
        cases hp : s[i]? with
        | none => rw [hp] at ht; cases ht
        | some p =>
          rw [hp] at ht
          cases ht
          have f1 := List.length_filter_le q (s.take i)
          have f2 := List.length_take_le' i s
          have f3 : (((s.take i).filter q).map (tSt D)).length ≤ 301 := by rw [List.length_map]; omega
          walk_at "V"
          refine lc_map (xs := qs.map Prod.fst) (f := VL.T.int) (fun d => .bl (decide (p.1 ≤ d ∧ d ≤ p.2))) (fun i x out hx hl => ?_) ?_
          · rw [List.length_map] at hl
            walk_at "V"
            try refine ⟨p, x, rfl, ?_⟩
            walk_at "V"
            exact NL.mk _ (by walk_at "le") rfl
          walk_at "V"
          refine bls_ok (fun d : Int => decide (p.1 ≤ d ∧ d ≤ p.2)) ?_
          rw [all_id]
          have eq : (qs.map Prod.fst).all (fun d => decide (p.1 ≤ d ∧ d ≤ p.2)) = q p := by rw [hq]
          rw [eq]
          have tk : (s.take (i + 1)).filter q = (s.take i).filter q ++ (if q p = true then [p] else []) := by
            rw [XR.take_one hp, List.filter_append]
            congr 1
            by_cases h : q p = true
            · rw [List.filter_cons_of_pos h, if_pos h]; rfl
            · rw [List.filter_cons_of_neg h, if_neg h]; rfl
          cases hqp : q p
          · rw [hqp] at tk
            walk_at "V"
            refine NL.mk (((s.take i).filter q).map (tSt D)) (by walk_at "le") ?_
            rw [tk]
            simp
          · rw [hqp] at tk
            walk_at "V"
            refine NL.mk (((s.take i).filter q).map (tSt D) ++ [tSt D p]) (by walk_at "le") ?_
            rw [tk, if_pos rfl, List.map_append]
            rfl
      · rintro _ rfl
        rw [List.length_map, List.take_length]
        have e : s.filter q = greatest rows := by
          refine eq_of_mem (sw.ord.sublist List.filter_sublist) (ord_greatest R) fun c g => ?_
          rw [List.mem_filter, sm, mem_greatest R, hq]
          refine and_congr_right fun _ => ?_
          rw [List.all_eq_true]
          unfold Holds
          constructor
          · intro h d hd
            exact of_decide_eq_true (h d ((qm d).mpr (mem_seen.mp hd)))
          · intro h d hd
            exact decide_eq_true (h d (mem_seen.mpr ((qm d).mp hd)))
        rw [e]
        exact k
def spLeastP (D : Ad) : VSp := fun vs Q _ => ∃ (b : Bool) (ns : List (Int × Bool)) (l : Int) (rows : List (Int × Int)), vs = [tSqN b (ns.map tN), .int l] ∧ NOk l ns ∧ 0 ≤ l ∧ l ≤ 60 ∧ Rows l ns rows ∧ Q (.new (.lst ((least rows).map (tSt D)))) []
theorem sc_least_stays : FnScope ["notes", "last", "stretches", "seen", "stretch", "day"] ["notes", "last"] (defScope s_least_stays) := ⟨rfl, rfl, rfl, by decide +kernel, rfl, by decide +kernel, by decide +kernel⟩
theorem ok_least_stays (T : Txt K mg D) : FnOk P w K mg base CX0 7 D.a_least_stays D.d_least_stays ["notes", "last"] (vsp K [false, false] (spLeastP D)) := by
  have G_Stay_init := ok_Stay_init (P := P) (w := w) (base := base) T
  have G_Stay_around := ok_Stay_around (P := P) (w := w) (base := base) T
  have G__days := ok__days (P := P) (w := w) (base := base) T
  have G__noted := ok__noted (P := P) (w := w) (base := base) T
  have G_greatest_stays := ok_greatest_stays (P := P) (w := w) (base := base) T
  refine VL.okV T.F_least_stays sc_least_stays rfl (by decide) (fun cdv A outer s H E hr => have hu := VL.huR hr; ⟨_, (pss_cons (ps_set (i := 2) sc_least_stays.nd rfl (Or.inl rfl) (pe_call G_greatest_stays (hr.mono (by decide)) (by rfl) T.g_greatest_stays T.F_greatest_stays.kp T.b_greatest_stays .nil pass0 (pa_cons (pv 0) (pa_cons (pv 1) pa_nil))))
      (pss_cons (ps_set (i := 3) sc_least_stays.nd rfl (Or.inl rfl) (pe_call G__days (hr.mono (by decide)) (by rfl) T.g__days T.F__days.kp T.b__days .nil pass0 (pa_cons (pe_call G__noted (hr.mono (by decide)) (by rfl) T.g__noted T.F__noted.kp T.b__noted .nil pass0 (pa_cons (pv 0) (pa_cons pe_bl pa_nil))) pa_nil)))
      (pss_cons (ps_if (PW.pt (pw_and (VL.pt_tru (pv 2) (by intro _; rfl)) (pw_and1 (VL.pt_tru (pv 3) (by intro _; rfl)))))
      (pss_one (ps_ret (pe_lst (pa_cons (XR.pe_stat (pe_glob (v := .ref D.c_Stay) (by rfl) T.g_Stay rfl) (T_s_Stay_around T) G_Stay_around (hr.mono (by decide)) T.F_Stay_around.kp T.b_Stay_around (fun σ => XR.at_of_passes (σ := σ) passL) (pa_cons (pv 3) pa_nil)) pa_nil))))
      pss_nil)
      (pss_one (ps_ret (pe_lc2 (own := [("stretch", 4), ("day", 5)]) (vs1 := [5]) (g := gName 4) (g1 := gName 5) (tt := tYes) (tt1 := tYes) (by rfl) sc_least_stays.nd (VL.pi_dyn (pv 2)) (blkOk_by (own := [("stretch", 4), ("day", 5)]) (N := ["notes", "last", "stretches", "seen", "stretch", "day"]) (sc := defScope s_least_stays) (by decide +kernel)) (by decide) (fun _ _ _ _ _ => (pg_name (i := 4) sc_least_stays.nd rfl (Or.inl rfl))) (fun _ _ _ _ _ => pts_nil) (fun _ _ _ _ _ => (pi_range2 (by rfl) T.n_range (pa_cons (VL.pe_fldK (K := K) rfl (pv 4) rfl) (pa_cons (pe_op (VL.op_addK (K := K) rfl) (VL.pe_fldK (K := K) rfl (pv 4) rfl) pe_int) pa_nil)))) (fun _ _ _ _ _ => (pg_name (i := 5) sc_least_stays.nd rfl (Or.inl rfl))) (fun _ _ _ _ _ => pts_nil) (fun _ _ _ _ _ => (pe_make (T_mk_Stay T) G_Stay_init (hr.mono (by decide)) (by rfl) T.g_Stay T.b_Stay_init .nil passL (pa_cons (pv 5) (pa_cons (pv 5) pa_nil)))))))))), ?_⟩)
  apply VL.wvI
  · intro B; walk_at "vi"
  · intro ts Qv Xv h
    obtain ⟨b, ns, l, rows, rfl, ok, l0, l6, R, k⟩ := h
    have nl := ok.ln
    walk_at "V"
    refine ⟨b, ns, l, rows, rfl, ok, l0, l6, R, ?_⟩
    walk_at "V"
    refine ⟨b, ns, true, rfl, nl, fun qs qo qm ql => ?_⟩
    walk_at "V"
    try refine ⟨qs, rfl, ql, ?_⟩
    walk_at "V"
    have hE : ((greatest rows).map (tSt D)).isEmpty = decide (rows = []) := by
      rw [Bool.eq_iff_iff, List.isEmpty_iff, decide_eq_true_eq, List.map_eq_nil_iff]
      exact greatest_nil R
    have hQ : ((qs.map Prod.fst).map VL.T.int).isEmpty = decide (seenL ns = []) := by
      rw [Bool.eq_iff_iff, List.isEmpty_iff, decide_eq_true_eq, List.map_eq_nil_iff, List.eq_nil_iff_forall_not_mem, List.eq_nil_iff_forall_not_mem]
      exact ⟨fun h d hd => h d ((qm d).mpr (mem_seen.mp hd)), fun h d hd => h d (mem_seen.mpr ((qm d).mp hd))⟩
    have go : rows = [] ∨ seenL ns = [] → (greatest rows).flatMap daysOf = least rows := fun h => by
      rcases h with h | h
      · rw [h]; rfl
      · exact days_least R h
    have lr : (least rows).length ≤ 4000 := Nat.le_trans (List.length_filter_le _ _) R.ln
    rw [hE]
    by_cases gr : rows = []
    · rw [decide_eq_true gr]
      have go := go (.inl gr)
      walk_at "V"
      refine lc_mapI (xs := greatest rows) (f := tSt D) (fun j out => out = (((greatest rows).take j).flatMap daysOf).map (tSt D)) rfl ?_ ?_
      · rintro j p _ hp rfl
        have len : ∀ i, (((((greatest rows).take j).flatMap daysOf) ++ (daysOf p).take i).map (tSt D)).length ≤ 4000 := fun i => by
          have e : (greatest rows).flatMap daysOf = ((greatest rows).take j).flatMap daysOf ++ (daysOf p ++ ((greatest rows).drop (j + 1)).flatMap daysOf) := by
            conv => lhs; rw [← List.take_append_drop (j + 1) (greatest rows)]
            rw [XR.take_one hp, List.flatMap_append, List.flatMap_append, List.append_assoc]
            simp
          have e2 := congrArg List.length e
          rw [go, List.length_append, List.length_append] at e2
          have := List.length_take_le' i (daysOf p)
          rw [List.length_map, List.length_append]
          omega
        have ld : (daysOf p).length = (p.2 + 1 - p.1).toNat := by unfold daysOf; rw [List.length_map, List.length_range]
        have fp := (big_iff.mp ((mem_greatest R p.1 p.2).mp (List.mem_of_getElem? hp))).1
        have f1 := fp.1
        have f2 := fp.2.1
        have f3 := fp.2.2.1
        walk_at "V"
        refine lcj_rng (β := List VL.T) ((fun (q1 q2 q3 q4 : VL.T) out => ⟨0, [qT q1, qI l, qR 0, qR 2, qT (tSt D p), none], [.fz q2, .fz q3, .mu q4, .mu (.lst out)]⟩) _ _ _ _) (fun i out => out = ((((greatest rows).take j).flatMap daysOf) ++ (daysOf p).take i).map (tSt D)) (NLs.mk _ (by walk_at "le") (by simp)) ?_ ?_
        · rintro i _ hi rfl
          have li := len i
          have hi2 : (daysOf p)[i]? = some (p.1 + (i : Int), p.1 + (i : Int)) := by
            unfold daysOf
            rw [List.getElem?_map, List.getElem?_range hi]
            rfl
          walk_at "V"
          refine ⟨_, _, rfl, fun z => absurd z (by omega), fun _ => ?_⟩
          walk_at "V"
          refine NLs.mk _ (by walk_at "le") ?_
          rw [XR.take_one hi2]
          simp only [List.map_append, List.append_assoc]
          rfl
        · rintro _ rfl
          refine NL.mk _ (by walk_at "le") ?_
          rw [← ld, List.take_length, XR.take_one hp, List.flatMap_append]
          simp
      · rintro _ rfl
        rw [List.take_length, go]
        exact k
    rw [decide_eq_false gr]
    walk_at "V"
    rw [hQ]
    by_cases hs : seenL ns = []
    · rw [decide_eq_true hs]
      have go := go (.inr hs)
      walk_at "V"
      refine lc_mapI (xs := greatest rows) (f := tSt D) (fun j out => out = (((greatest rows).take j).flatMap daysOf).map (tSt D)) rfl ?_ ?_
      · rintro j p _ hp rfl
        have len : ∀ i, (((((greatest rows).take j).flatMap daysOf) ++ (daysOf p).take i).map (tSt D)).length ≤ 4000 := fun i => by
          have e : (greatest rows).flatMap daysOf = ((greatest rows).take j).flatMap daysOf ++ (daysOf p ++ ((greatest rows).drop (j + 1)).flatMap daysOf) := by
            conv => lhs; rw [← List.take_append_drop (j + 1) (greatest rows)]
            rw [XR.take_one hp, List.flatMap_append, List.flatMap_append, List.append_assoc]
            simp
          have e2 := congrArg List.length e
          rw [go, List.length_append, List.length_append] at e2
          have := List.length_take_le' i (daysOf p)
          rw [List.length_map, List.length_append]
          omega
        have ld : (daysOf p).length = (p.2 + 1 - p.1).toNat := by unfold daysOf; rw [List.length_map, List.length_range]
        have fp := (big_iff.mp ((mem_greatest R p.1 p.2).mp (List.mem_of_getElem? hp))).1
        have f1 := fp.1
        have f2 := fp.2.1
        have f3 := fp.2.2.1
        walk_at "V"
        refine lcj_rng (β := List VL.T) ((fun (q1 q2 q3 q4 : VL.T) out => ⟨0, [qT q1, qI l, qR 0, qR 2, qT (tSt D p), none], [.fz q2, .fz q3, .mu q4, .mu (.lst out)]⟩) _ _ _ _) (fun i out => out = ((((greatest rows).take j).flatMap daysOf) ++ (daysOf p).take i).map (tSt D)) (NLs.mk _ (by walk_at "le") (by simp)) ?_ ?_
        · rintro i _ hi rfl
          have li := len i
          have hi2 : (daysOf p)[i]? = some (p.1 + (i : Int), p.1 + (i : Int)) := by
            unfold daysOf
            rw [List.getElem?_map, List.getElem?_range hi]
            rfl
          walk_at "V"
          refine ⟨_, _, rfl, fun z => absurd z (by omega), fun _ => ?_⟩
          walk_at "V"
          refine NLs.mk _ (by walk_at "le") ?_
          rw [XR.take_one hi2]
          simp only [List.map_append, List.append_assoc]
          rfl
        · rintro _ rfl
          refine NL.mk _ (by walk_at "le") ?_
          rw [← ld, List.take_length, XR.take_one hp, List.flatMap_append]
          simp
      · rintro _ rfl
        rw [List.take_length, go]
        exact k
    rw [decide_eq_false hs]
    have q0 : 0 < (qs.map Prod.fst).length := by
      obtain ⟨d, hd⟩ := List.exists_mem_of_ne_nil _ hs
      exact List.length_pos_of_mem ((qm d).mpr (mem_seen.mp hd))
    walk_at "V"
    refine fun x y hx hy hxy => ?_
    rw [least_seen R (mem_seen.mpr ((qm x).mp hx)) (mem_seen.mpr ((qm y).mp hy)) (fun d hd => hxy d ((qm d).mpr (mem_seen.mp hd))) gr] at k
    walk_at "V"
    exact k
def wordP (rows : List (Int × Int)) (d : Int) : String := if rows = [] then "void" else if rows.all (fun p => decide (p.1 ≤ d ∧ d ≤ p.2)) then "sure" else if rows.any (fun p => decide (p.1 ≤ d ∧ d ≤ p.2)) then "open" else "never"
def spSurely (D : Ad) : VSp := fun vs Q _ => ∃ (b : Bool) (ns : List (Int × Bool)) (l d : Int) (rows : List (Int × Int)), vs = [tSqN b (ns.map tN), .int l, .int d] ∧ NOk l ns ∧ 0 ≤ l ∧ l ≤ 60 ∧ Rows l ns rows ∧ Q (.val (.str (PySem.Str.ofString (wordP rows d)))) []
theorem sc_surely_on : FnScope ["notes", "last", "day", "greatest", "stay"] ["notes", "last", "day"] (defScope s_surely_on) := ⟨rfl, rfl, rfl, by decide +kernel, rfl, by decide +kernel, by decide +kernel⟩
theorem ok_surely_on (T : Txt K mg D) : FnOk P w K mg base CX0 9 D.a_surely_on D.d_surely_on ["notes", "last", "day"] (vsp K [false, false, false] (spSurely D)) := by
  have G_Stay___contains__ := ok_Stay___contains__ (P := P) (w := w) (base := base) T
  have G_least_stays := ok_least_stays (P := P) (w := w) (base := base) T
  have G_greatest_stays := ok_greatest_stays (P := P) (w := w) (base := base) T
  refine VL.okV T.F_surely_on sc_surely_on rfl (by decide) (fun cdv A outer s H E hr => have hu := VL.huR hr; ⟨_, (pss_cons (ps_set (i := 3) sc_surely_on.nd rfl (Or.inl rfl) (pe_call G_greatest_stays (hr.mono (by decide)) (by rfl) T.g_greatest_stays T.F_greatest_stays.kp T.b_greatest_stays .nil pass0 (pa_cons (pv 0) (pa_cons (pv 1) pa_nil))))
      (pss_cons (ps_if (pt_not (VL.pt_tru (pv 3) (by intro _; rfl)))
      (pss_one (ps_ret pe_str))
      pss_nil)
      (pss_cons (ps_if (pt_val (pe_callB (cr_all rfl) (by rfl) T.n_all (by decide +kernel) (pa_cons (pe_lc (own := [("stay", 4)]) (g := gName 4) (tt := tYes) (by rfl) sc_surely_on.nd (VL.pi_dyn (pe_call G_least_stays (hr.mono (by decide)) (by rfl) T.g_least_stays T.F_least_stays.kp T.b_least_stays .nil pass0 (pa_cons (pv 0) (pa_cons (pv 1) pa_nil)))) (blkOk_by (own := [("stay", 4)]) (N := ["notes", "last", "day", "greatest", "stay"]) (sc := defScope s_surely_on) (by decide +kernel)) (fun _ _ _ _ _ => (pg_name (i := 4) sc_surely_on.nd rfl (Or.inl rfl))) (fun _ _ _ _ _ => pts_nil) (fun _ _ _ _ _ => (pe_cmpR (XR.op_in_own (T_o_Stay___contains__ T) G_Stay___contains__ (hr.mono (by decide)) T.b_Stay___contains__ pass0) (pv 2) (pv 4) rfl))) pa_nil)))
      (pss_one (ps_ret pe_str))
      pss_nil)
      (pss_cons (ps_if (pt_not (pt_val (pe_callB (cr_any rfl) (by rfl) T.n_any (by decide +kernel) (pa_cons (pe_lc (own := [("stay", 4)]) (g := gName 4) (tt := tYes) (by rfl) sc_surely_on.nd (VL.pi_dyn (pv 3)) (blkOk_by (own := [("stay", 4)]) (N := ["notes", "last", "day", "greatest", "stay"]) (sc := defScope s_surely_on) (by decide +kernel)) (fun _ _ _ _ _ => (pg_name (i := 4) sc_surely_on.nd rfl (Or.inl rfl))) (fun _ _ _ _ _ => pts_nil) (fun _ _ _ _ _ => (pe_cmpR (XR.op_in_own (T_o_Stay___contains__ T) G_Stay___contains__ (hr.mono (by decide)) T.b_Stay___contains__ pass0) (pv 2) (pv 4) rfl))) pa_nil))))
      (pss_one (ps_ret pe_str))
      pss_nil)
      (pss_one (ps_ret pe_str)))))), ?_⟩)
  apply VL.wvI
  · intro B; walk_at "vi"
  · intro ts Qv Xv h
    obtain ⟨b, ns, l, d, rows, rfl, ok, l0, l6, R, k⟩ := h
    have hE : ((greatest rows).map (tSt D)).isEmpty = decide (rows = []) := by
      rw [Bool.eq_iff_iff, List.isEmpty_iff, decide_eq_true_eq, List.map_eq_nil_iff]
      exact greatest_nil R
    have lg : (greatest rows).length ≤ 4000 := Nat.le_trans (List.length_filter_le _ _) R.ln
    have ll : (least rows).length ≤ 4000 := Nat.le_trans (List.length_filter_le _ _) R.ln
    have eall : (least rows).all (fun p => decide (p.1 ≤ d ∧ d ≤ p.2)) = rows.all (fun p => decide (p.1 ≤ d ∧ d ≤ p.2)) := by
      rw [Bool.eq_iff_iff, List.all_eq_true, List.all_eq_true]
      constructor
      · intro h p hp
        obtain ⟨q, hq, h1, h2⟩ := small_of R ((R.mem p.1 p.2).mp hp)
        have := of_decide_eq_true (h q hq)
        exact decide_eq_true ⟨by omega, by omega⟩
      · intro h p hp
        exact h p (List.mem_filter.mp hp).1
    have eany : (greatest rows).any (fun p => decide (p.1 ≤ d ∧ d ≤ p.2)) = rows.any (fun p => decide (p.1 ≤ d ∧ d ≤ p.2)) := by
      rw [Bool.eq_iff_iff, List.any_eq_true, List.any_eq_true]
      constructor
      · rintro ⟨p, hp, h⟩
        exact ⟨p, (List.mem_filter.mp hp).1, h⟩
      · rintro ⟨p, hp, h⟩
        have h := of_decide_eq_true h
        obtain ⟨q, hq, h1, h2⟩ := big_of R ((R.mem p.1 p.2).mp hp)
        exact ⟨q, hq, decide_eq_true ⟨by omega, by omega⟩⟩
    walk_at "V"
    refine ⟨b, ns, l, rows, rfl, ok, l0, l6, R, ?_⟩
    walk_at "V"
    rw [hE]
    unfold wordP at k
    by_cases gr : rows = []
    · rw [if_pos gr] at k
      rw [decide_eq_true gr]
      walk_at "V"
      exact k
    rw [if_neg gr] at k
    rw [decide_eq_false gr]
    walk_at "V"
    refine ⟨b, ns, l, rows, rfl, ok, l0, l6, R, ?_⟩
    walk_at "V"
    refine lc_map (xs := least rows) (f := tSt D) (fun p => .bl (decide (p.1 ≤ d ∧ d ≤ p.2))) (fun i x out hx hl => ?_) ?_
    · walk_at "V"
      try refine ⟨x, d, rfl, ?_⟩
      walk_at "V"
      exact NL.mk _ (by walk_at "le") rfl
    walk_at "V"
    refine bls_ok (fun p : Int × Int => decide (p.1 ≤ d ∧ d ≤ p.2)) ?_
    rw [all_id, eall]
    cases ha : rows.all fun p => decide (p.1 ≤ d ∧ d ≤ p.2)
    · rw [ha] at k
      walk_at "V"
      refine lc_map (xs := greatest rows) (f := tSt D) (fun p => .bl (decide (p.1 ≤ d ∧ d ≤ p.2))) (fun i x out hx hl => ?_) ?_
      · walk_at "V"
        try refine ⟨x, d, rfl, ?_⟩
        walk_at "V"
        exact NL.mk _ (by walk_at "le") rfl
      walk_at "V"
      refine bls_ok (fun p : Int × Int => decide (p.1 ≤ d ∧ d ≤ p.2)) ?_
      rw [any_id, eany]
      cases hy : rows.any fun p => decide (p.1 ≤ d ∧ d ≤ p.2)
      · rw [hy] at k
        walk_at "V"
        exact k
      · rw [hy] at k
        walk_at "V"
        exact k
    · rw [ha] at k
      walk_at "V"
      exact k
end
end Toy
set_option Elab.async false
set_option linter.all false
set_option maxRecDepth 100000
set_option maxHeartbeats 4000000
set_option synthInstance.maxSize 1000000
set_option synthInstance.maxHeartbeats 4000000
namespace Toy
open PySem L2 XR VL
local macro_rules | `(tactic| walk_at "ne") => `(tactic| first | assumption | (apply Ne.symm; assumption) | exact XR.ne_fresh (by assumption) (by walk_at "hp") | exact Ne.symm (XR.ne_fresh (by assumption) (by walk_at "hp")))
local macro_rules | `(tactic| walk_at "hp") => `(tactic| first | assumption | exact upd_same | (refine Eq.trans (upd_ne ?_) ?_; (walk_at "ne"); walk_at "hp"))
local macro_rules | `(tactic| walk_at "sq") => `(tactic| first | walk_at "hp" | exact SqL.of (by walk_at "hp") | exact SqT.of (by walk_at "hp") | exact XR.SqT.same (by assumption) (by assumption) | exact XR.SqL.same (by assumption) (by assumption))
local macro_rules | `(tactic| walk_at "br") => `(tactic| (refine ite2 ?_ ?_ <;> intro hbr <;> (try simp only [decide_eq_true_eq, decide_eq_false_iff_not, V.int.injEq, V.bl.injEq, V.str.injEq, Bool.not_eq_true, Bool.not_eq_eq_eq_not, Bool.not_true, Bool.not_false, ne_eq, Int.reduceToNat, Int.reducePow, Int.reduceMul, Int.reduceAdd, Int.reduceSub, reduceCtorEq, not_true_eq_false, not_false_eq_true, Int.not_lt, Int.not_le] at hbr)))
local macro_rules | `(tactic| walk_at "side") => `(tactic| first
  | exact ⟨by decide, by decide, by decide⟩
  | exact .inl ⟨by decide, by decide⟩
  | exact .inr ⟨by decide, by decide⟩
  | exact XR.divw (by first | decide | omega) (by first | decide | omega)
  | (show (_ : Int) = _; first | rfl | omega)
  | (show (0 : Int) < _; first | decide | assumption | omega)
  | exact .inl ⟨by omega, by omega⟩
  | exact .inr ⟨by omega, by omega⟩
  | exact .inl (XR.cmul_mod (by decide))
  | exact XR.log_lt (by omega) (by omega)
  | decide
  | (rw [sizeLine_eq]; simp; done)
  | (show 2 ≤ sizeLine; decide) | (show 3 ≤ sizeLine; decide) | (show 4 ≤ sizeLine; decide) | (show 5 ≤ sizeLine; decide) | (show 6 ≤ sizeLine; decide) | (show 7 ≤ sizeLine; decide) | (show 1 ≤ sizeLine; decide) | (show 8 ≤ sizeLine; decide) | (show 0 ≤ sizeLine; decide))
local macro_rules | `(tactic| walk_at "rd1") => `(tactic| first
  | refine ⟨_, rfl, ?_⟩
  | refine ⟨_, _, rfl, rfl, ?_⟩
  | refine ⟨_, _, _, _, rfl, rfl, (by walk_at "sq"), rfl, ?_⟩
  | refine ⟨_, _, _, _, rfl, rfl, (by walk_at "hp"), (by walk_at "hp"), (by walk_at "side"), ?_⟩
  | refine ⟨_, _, rfl, .inl (by walk_at "sq"), ?_⟩
  | refine ⟨_, _, rfl, .inl ⟨(by walk_at "sq"), ?_⟩⟩
  | refine ⟨_, _, rfl, .inr (by walk_at "sq"), ?_⟩
  | refine ⟨_, _, _, _, _, rfl, (by walk_at "hp"), (by walk_at "cls"), (by walk_at "noat"), rfl, ?_⟩
  | refine ⟨_, _, _, _, rfl, rfl, (by walk_at "sq"), (by first | assumption | exact XR.at0 | exact XR.at1), ?_⟩
  | refine ⟨rfl, ?_⟩
  | refine And.intro (by walk_at "side") ?_
  | refine .inl ⟨_, rfl, ?_⟩
  | refine And.intro ⟨_, (by walk_at "sq")⟩ ?_
  | refine ⟨_, _, rfl, (by walk_at "sq"), ?_⟩
  | refine ⟨_, _, rfl, ?_⟩
  | refine .inr ⟨_, rfl, (by walk_at "side"), ?_⟩
  | refine ⟨_, _, _, rfl, (by walk_at "hp"), ?_⟩
  | refine iteT ?_
  | refine iteF ?_)
local macro_rules | `(tactic| walk_at "rd") => `(tactic| repeat (walk_at "rd1"))
local macro_rules | `(tactic| walk_at "nn") => `(tactic| (simp only [Int.reduceToNat, Int.reducePow, Int.reduceMul, Int.reduceAdd, Int.reduceSub, Int.reduceNeg]))
local macro_rules | `(tactic| walk_at "dr") => `(tactic| repeat (first | refine And.intro (by first | assumption | walk_at "pre") ?_ | refine And.intro (by first | decide | omega) ?_))
local macro_rules | `(tactic| walk_at "vi") => `(tactic| ((try dsimp only [L2.cxOf, L2.Cx.nox, L2.Cx.wish, L2.Cx.blk, L2.Cx.suite, L2.Cx.tr, L2H.cxH, List.map_cons, List.map_nil]); (try simp only [List.map_cons, List.map_nil]); infer_instance))
local macro_rules | `(tactic| walk_at "w") => `(tactic| conv => whnf)
local macro_rules | `(tactic| walk_at "sz") => `(tactic| first
  | (show _ ≤ sizeLine; rw [sizeLine_eq]; first | decide | omega | (simp; done) | (simp; omega))
  | (show _ < sizeLine; rw [sizeLine_eq]; first | decide | omega | (simp; done) | (simp; omega)))
local macro_rules | `(tactic| walk_at "ok") => `(tactic| first
  | exact encInt.list.ok (by decide) _ | exact encInt.tupl.ok (by decide) _ | exact encStr.list.ok (by decide) _ | exact encStr.tupl.ok (by decide) _
  | exact (encInt.pair encInt).list.ok (by decide) _ | exact (encInt.pair encInt).ok (by decide) _ | exact (encStr.pair encStr).list.ok (by decide) _ | exact (encStr.pair encStr).ok (by decide) _
  | exact encInt.tupl.list.ok (by decide) _)
local macro_rules | `(tactic| walk_at "vs") => `(tactic| first
  | exact trivial
  | assumption
  | exact rfl
  | exact ⟨rfl, rfl⟩
  | walk_at "ok"
  | walk_at "sz"
  | exact .inl (.inr ⟨by decide, by decide⟩)
  | exact .inl (.inl ⟨by first | decide | omega, by first | decide | omega⟩)
  | exact .inl (.inr ⟨by first | decide | omega, by first | decide | omega⟩)
  | exact XR.divw (by first | decide | omega) (by first | decide | omega)
  | (show (0 : Int) < _; first | decide | omega)
  | exact ⟨by first | decide | omega, by first | decide | omega⟩
  | exact ⟨by first | decide | omega, by first | decide | omega, by first | decide | omega⟩
  | exact ⟨by walk_at "sz", by omega, by omega⟩
  | exact ⟨by walk_at "cls", by walk_at "noat"⟩
  | exact ⟨by walk_at "xf", by walk_at "xe"⟩
  | walk_at "exm"
  | decide
  | exact XR.log_lt (by omega) (by omega)
  | ((try dsimp only); (try simp only [List.length_map, List.length_append, List.length_cons, List.length_nil, List.length_eraseIdx]); omega))
local macro_rules | `(tactic| walk_at "v") => `(tactic| (walk_at "w"; (repeat ((first | refine And.intro (by walk_at "vs") ?_ | refine isS_i (by assumption) ?_); walk_at "w")); (try walk_at "n")))
local macro_rules | `(tactic| walk_at "isi") => `(tactic| first | refine ⟨_, VL.IsI.int_int _, ?_⟩ | refine ⟨_, VL.IsI.int_bool _, ?_⟩ | refine ⟨_, VL.IsI.int_str _, ?_⟩ | refine ⟨_, VL.IsI.int_list _, ?_⟩ | refine ⟨_, VL.IsI.int_tuple _, ?_⟩ | refine ⟨_, VL.IsI.bl_int _, ?_⟩ | refine ⟨_, VL.IsI.bl_bool _, ?_⟩ | refine ⟨_, VL.IsI.bl_str _, ?_⟩ | refine ⟨_, VL.IsI.str_str _, ?_⟩ | refine ⟨_, VL.IsI.str_int _, ?_⟩ | refine ⟨_, VL.IsI.str_bool _, ?_⟩ | refine ⟨_, VL.IsI.lst_list _, ?_⟩ | refine ⟨_, VL.IsI.lst_tuple _, ?_⟩ | refine ⟨_, VL.IsI.tup_list _, ?_⟩ | refine ⟨_, VL.IsI.tup_tuple _, ?_⟩ | refine ⟨_, VL.IsI.tup_str _, ?_⟩ | refine ⟨_, VL.IsI.tup_int _, ?_⟩ | refine ⟨_, VL.IsI.dk_dict _, ?_⟩ | refine ⟨_, VL.IsI.non_int, ?_⟩ | refine ⟨_, VL.IsI.non_tuple, ?_⟩ | refine ⟨_, VL.IsI.non_list, ?_⟩ | refine ⟨_, VL.IsI.non_str, ?_⟩)
local macro_rules | `(tactic| walk_at "V") => `(tactic| (walk_at "w"; (repeat ((first | refine And.intro (by walk_at "vs") ?_ | refine isS_i (by assumption) ?_ | refine Or.inr ?_ | walk_at "isi" | walk_at "eis" | refine ⟨_, rfl, ?_⟩); walk_at "w")); (try walk_at "n")))
set_option hygiene false
local macro_rules | `(tactic| walk_at "vb") => `(tactic| (refine br_i ?_ ?_ <;> intro hbr <;> (try simp only [nb, decide_eq_true_eq, decide_eq_false_iff_not, Bool.not_eq_true, Bool.not_eq_eq_eq_not, Bool.not_true, Bool.not_false, ne_eq, Bool.and_eq_true, Bool.or_eq_true, Bool.and_eq_false_imp, Decidable.not_not, Int.not_lt, Int.not_le, bne_iff_ne, Bool.not_eq_false, Bool.or_eq_false_iff, reduceCtorEq, not_true_eq_false, not_false_eq_true] at hbr)))
set_option hygiene true
local macro_rules | `(tactic| walk_at "le") => `(tactic| exact VL.Le.to rfl (Nat.le_of_ble_eq_true rfl))
local macro_rules | `(tactic| walk_at "d") => `(tactic| dsimp only at *)
local macro_rules | `(tactic| walk_at "n") => `(tactic| dsimp only [VL.env0, VL.slots0, VL.mem0, VL.nones, VL.falses, VL.put_mk, VL.push_mk, VL.set_mk, VL.unset_mk, VL.wipe_nl, VL.wipe_cs, VL.el_mk, VL.frs_nl, VL.frs_cs, VL.fr_mk, VL.frX, VL.frSl, VL.nth, Nat.reduceAdd, Nat.reduceSub, Nat.reduceMul, Nat.reduceBEq, List.set, List.length_cons, List.length_nil, List.cons_append, List.nil_append, VL.qI, VL.qT, VL.qR])
local macro_rules | `(tactic| walk_at "cls") => `(tactic| first | exact T_cl_Stay (by assumption))
local macro_rules | `(tactic| walk_at "noat") => `(tactic| first | exact Txt.no_Stay_come (by assumption) | exact Txt.no_Stay_go (by assumption))
local macro_rules | `(tactic| walk_at "eis") => `(tactic| first | fail)
local macro_rules | `(tactic| walk_at "exm") => `(tactic| first | fail)
local macro_rules | `(tactic| walk_at "xf") => `(tactic| first | exact T_xf_EmptyStay (by assumption) | exact T_xf_OutOfRange (by assumption) | fail)
local macro_rules | `(tactic| walk_at "xe") => `(tactic| first | exact Txt.e_EmptyStay_come (by assumption) | exact Txt.e_EmptyStay_go (by assumption) | exact Txt.e_OutOfRange_value (by assumption) | fail)
local macro_rules | `(tactic| walk_at "isi") => `(tactic| first | refine ⟨_, VL.IsI.mk _ _ (.obj (fun _ _ _ _ e => T_ty_Stay (by assumption) e)) (.cls _) (Txt.zo_Stay_Stay (by assumption)), ?_⟩ | refine ⟨_, VL.IsI.mk _ _ (.obj (fun _ _ _ _ e => T_ty_Stay (by assumption) e)) (.ty _) (Txt.zo_Stay_bool (by assumption)), ?_⟩ | refine ⟨_, VL.IsI.mk _ _ (.obj (fun _ _ _ _ e => T_ty_Stay (by assumption) e)) (.ty _) (Txt.zo_Stay_int (by assumption)), ?_⟩ | refine ⟨_, VL.IsI.mk _ _ (.obj (fun _ _ _ _ e => T_ty_Stay (by assumption) e)) (.ty _) (Txt.zo_Stay_str (by assumption)), ?_⟩ | refine ⟨_, VL.IsI.mk _ _ (.obj (fun _ _ _ _ e => T_ty_Stay (by assumption) e)) (.ty _) (Txt.zo_Stay_tuple (by assumption)), ?_⟩)
local macro_rules | `(tactic| walk_at "vs") => `(tactic| exact Txt.nit (by assumption))
section
variable {P : Program} {w : World} {K : PySem.W.Frag} {mg : Str → Option Value} {base : Heap} {D : Ad}
local macro_rules | `(tactic| walk_at "vs") => `(tactic| exact VL.strOk_of _)
def meet (p q : Int × Int) : Bool := decide (p.1 ≤ q.2 ∧ q.1 ≤ p.2)
/-- the first of the others that meets it so -/
def firstIn (p : Int × Int) (m : Bool) : List (Int × Int) → Option ((Int × Int) × (Int × Int))
  | [] => none
  | q :: qs => if meet p q = m then some (p, q) else firstIn p m qs
def firstP (m : Bool) (qs : List (Int × Int)) : List (Int × Int) → Option ((Int × Int) × (Int × Int))
  | [] => none
  | p :: ps => match firstIn p m qs with
    | some x => some x
    | none => firstP m qs ps
theorem drop_consP {α : Type} {ts : List α} {i : Nat} {c : α} (h : ts[i]? = some c) : ts.drop i = c :: ts.drop (i + 1) := by
  obtain ⟨hi, rfl⟩ := List.getElem?_eq_some_iff.mp h
  exact List.drop_eq_getElem_cons hi
def tOp (f : Int × Int → T) : Option ((Int × Int) × (Int × Int)) → T
  | some x => .tup [f x.1, f x.2]
  | none => .non
def spCommon : VSpF := fun vs Q => ∃ (p q : Int × Int), vs = [tR2 p, tR2 q] ∧ Q (.bl (meet p q))
theorem sc__law_common : FnScope ["_law_one", "_law_other"] ["_law_one", "_law_other"] (defScope s__law_common) := ⟨rfl, rfl, rfl, by decide +kernel, rfl, by decide +kernel, by decide +kernel⟩
theorem okv__law_common (T : Txt K mg D) : FnOk P w K mg base CX0 1 D.a__law_common D.d__law_common ["_law_one", "_law_other"] (vsp K (VL.falses 2) (VL.ofF spCommon)) := by
  refine VL.okV T.F__law_common sc__law_common rfl (by decide) (fun cdv A outer s H E hr => have hu := VL.huR hr; ⟨_, (pss_one (ps_ret (pe_and (pe_cmpR op_le (pe_ix ix_seq (pv 0) pe_int (fun _ _ => rfl)) (pe_ix ix_seq (pv 1) pe_int (fun _ _ => rfl)) (nomark _)) (pe_one (pe_cmpR op_le (pe_ix ix_seq (pv 1) pe_int (fun _ _ => rfl)) (pe_ix ix_seq (pv 0) pe_int (fun _ _ => rfl)) (nomark _)))))), ?_⟩)
  apply VL.wvI
  · intro B; walk_at "vi"
  · intro ts Qv Xv h
    obtain ⟨Q0, ⟨p, q, rfl, k⟩, kq⟩ := h
    walk_at "V"
    by_cases h : p.1 ≤ q.2
    · rw [decide_eq_true h]
      walk_at "V"
      exact kq _ rfl (by rw [show decide (q.1 ≤ p.2) = meet p q from decide_eq_decide.mpr ⟨fun z => ⟨h, z⟩, fun z => z.2⟩]; exact k)
    · rw [decide_eq_false h]
      walk_at "V"
      exact kq _ rfl (by rw [show false = meet p q from (decide_eq_false fun z => h z.1).symm]; exact k)
theorem ok__law_common (T : Txt K mg D) : FnOk P w K mg base CX0 1 D.a__law_common D.d__law_common ["_law_one", "_law_other"] (vspF K spCommon) := VL.okF (okv__law_common T) (fun ts Q h => by obtain ⟨p, q, rfl, _⟩ := h; rfl)
def spFirstL : VSp := fun vs Q _ => ∃ (ps qs : List (Int × Int)) (m : Bool), vs = [.lst (ps.map tR2), .lst (qs.map tR2), .bl m] ∧ Q (.val (tOp tR2 (firstP m qs ps))) []
theorem sc__law_first_pair : FnScope ["_law_rows", "_law_others", "_law_common_here", "_law_one", "_law_other"] ["_law_rows", "_law_others", "_law_common_here"] (defScope s__law_first_pair) := ⟨rfl, rfl, rfl, by decide +kernel, rfl, by decide +kernel, by decide +kernel⟩
theorem ok__law_first_pair (T : Txt K mg D) : FnOk P w K mg base CX0 3 D.a__law_first_pair D.d__law_first_pair ["_law_rows", "_law_others", "_law_common_here"] (vsp K [false, false, false] spFirstL) := by
  have G__law_common := ok__law_common (P := P) (w := w) (base := base) T
  refine VL.okV T.F__law_first_pair sc__law_first_pair rfl (by decide) (fun cdv A outer s H E hr => have hu := VL.huR hr; ⟨_, (pss_cons (ps_for PassesOwn.never rfl (VL.pi_dyn (pv 0)) (pg_name (i := 3) sc__law_first_pair.nd rfl (Or.inl rfl))
      (pss_one (ps_for PassesOwn.never rfl (VL.pi_dyn (pv 1)) (pg_name (i := 4) sc__law_first_pair.nd rfl (Or.inl rfl))
      (pss_one (ps_if (pt_cmpR (op_eqD (VL.hu64 hu)) (pe_call G__law_common (hr.mono (by decide)) (by rfl) T.g__law_common T.F__law_common.kp T.b__law_common .nil pass0 (pa_cons (pv 3) (pa_cons (pv 4) pa_nil))) (pv 2) (nomark _))
      (pss_one (ps_ret (pe_tup (pa_cons (pv 3) (pa_cons (pv 4) pa_nil)))))
      pss_nil)))))
      (pss_one (ps_ret pe_non))), ?_⟩)
  apply VL.wvI
  · intro B; walk_at "vi"
  · intro ts Qv Xv h
    obtain ⟨ps, qs, m, rfl, k⟩ := h
    walk_at "V"
    refine for_mapF (β := Unit) (xs := ps) (f := tR2) (fun γ _ => γ) (fun i _ => firstP m qs ps = firstP m qs (ps.drop i)) (Nx.mk () (by walk_at "le") rfl) ?_ ?_
    · rintro i p ⟨⟩ hp es
      rw [drop_consP hp] at es
      walk_at "V"
      refine for_mapF (β := Unit) (xs := qs) (f := tR2) (fun γ _ => γ) (fun j _ => firstIn p m qs = firstIn p m (qs.drop j)) (Nx.mk () (by walk_at "le") rfl) ?_ ?_
      · rintro j q ⟨⟩ hq ej
        rw [drop_consP hq] at ej
        have ej : firstIn p m qs = if meet p q = m then some (p, q) else firstIn p m (qs.drop (j + 1)) := ej
        walk_at "V"
        refine ⟨p, q, rfl, ?_⟩
        walk_at "V"
        walk_at "vb"
        · rw [if_pos hbr] at ej
          have es : firstP m qs ps = match firstIn p m qs with
            | some x => some x
            | none => firstP m qs (ps.drop (i + 1)) := es
          rw [ej] at es
          rw [es] at k
          walk_at "V"
          exact k
        · rw [if_neg hbr] at ej
          exact Nx.mk () (by walk_at "le") ej
      · rintro ⟨⟩ ej
        rw [List.drop_length] at ej
        have es : firstP m qs ps = match firstIn p m qs with
          | some x => some x
          | none => firstP m qs (ps.drop (i + 1)) := es
        rw [ej] at es
        walk_at "V"
        exact Nx.mk () (by walk_at "le") es
    · rintro ⟨⟩ es
      rw [List.drop_length] at es
      rw [es] at k
      walk_at "V"
      exact k
def spFirstS (D : Ad) : VSp := fun vs Q _ => ∃ (ps qs : List (Int × Int)) (m : Bool), vs = [.lst (ps.map (tSt D)), .lst (qs.map (tSt D)), .bl m] ∧ Q (.val (tOp (tSt D) (firstP m qs ps))) []
theorem sc__first_pair : FnScope ["stays", "others", "meeting", "stay", "other"] ["stays", "others", "meeting"] (defScope s__first_pair) := ⟨rfl, rfl, rfl, by decide +kernel, rfl, by decide +kernel, by decide +kernel⟩
theorem ok__first_pair (T : Txt K mg D) : FnOk P w K mg base CX0 3 D.a__first_pair D.d__first_pair ["stays", "others", "meeting"] (vsp K [false, false, false] (spFirstS D)) := by
  have G_Stay_meets := ok_Stay_meets (P := P) (w := w) (base := base) T
  refine VL.okV T.F__first_pair sc__first_pair rfl (by decide) (fun cdv A outer s H E hr => have hu := VL.huR hr; ⟨_, (pss_cons (ps_for PassesOwn.never rfl (VL.pi_dyn (pv 0)) (pg_name (i := 3) sc__first_pair.nd rfl (Or.inl rfl))
      (pss_one (ps_for PassesOwn.never rfl (VL.pi_dyn (pv 1)) (pg_name (i := 4) sc__first_pair.nd rfl (Or.inl rfl))
      (pss_one (ps_if (pt_cmpR (op_eqD (VL.hu64 hu)) (pe_meth (pv 3) (T_cl_Stay T) (T_m_Stay_meets T) G_Stay_meets (hr.mono (by decide)) T.b_Stay_meets .nil pass0 (pa_cons (pv 4) pa_nil)) (pv 2) (nomark _))
      (pss_one (ps_ret (pe_tup (pa_cons (pv 3) (pa_cons (pv 4) pa_nil)))))
      pss_nil)))))
      (pss_one (ps_ret pe_non))), ?_⟩)
  apply VL.wvI
  · intro B; walk_at "vi"
  · intro ts Qv Xv h
    obtain ⟨ps, qs, m, rfl, k⟩ := h
    walk_at "V"
    refine for_mapF (β := Unit) (xs := ps) (f := (tSt D)) (fun γ _ => γ) (fun i _ => firstP m qs ps = firstP m qs (ps.drop i)) (Nx.mk () (by walk_at "le") rfl) ?_ ?_
    · rintro i p ⟨⟩ hp es
      rw [drop_consP hp] at es
      walk_at "V"
      refine for_mapF (β := Unit) (xs := qs) (f := (tSt D)) (fun γ _ => γ) (fun j _ => firstIn p m qs = firstIn p m (qs.drop j)) (Nx.mk () (by walk_at "le") rfl) ?_ ?_
      · rintro j q ⟨⟩ hq ej
        rw [drop_consP hq] at ej
        have ej : firstIn p m qs = if meet p q = m then some (p, q) else firstIn p m (qs.drop (j + 1)) := ej
        walk_at "V"
        refine ⟨p, q, rfl, ?_⟩
        walk_at "V"
        walk_at "vb"
        · have hbr : meet p q = m := hbr
          rw [if_pos hbr] at ej
          have es : firstP m qs ps = match firstIn p m qs with
            | some x => some x
            | none => firstP m qs (ps.drop (i + 1)) := es
          rw [ej] at es
          rw [es] at k
          walk_at "V"
          exact k
        · have hbr : ¬ meet p q = m := hbr
          rw [if_neg hbr] at ej
          exact Nx.mk () (by walk_at "le") ej
      · rintro ⟨⟩ ej
        rw [List.drop_length] at ej
        have es : firstP m qs ps = match firstIn p m qs with
          | some x => some x
          | none => firstP m qs (ps.drop (i + 1)) := es
        rw [ej] at es
        walk_at "V"
        exact Nx.mk () (by walk_at "le") es
    · rintro ⟨⟩ es
      rw [List.drop_length] at es
      rw [es] at k
      walk_at "V"
      exact k
def spLawIs (D : Ad) : VSpF := fun vs Q => ∃ p : Int × Int, vs = [tSt D p, tR2 p] ∧ Q (.bl true)
theorem sc__law_is : FnScope ["_law_stay", "_law_days"] ["_law_stay", "_law_days"] (defScope s__law_is) := ⟨rfl, rfl, rfl, by decide +kernel, rfl, by decide +kernel, by decide +kernel⟩
theorem okv__law_is (T : Txt K mg D) : FnOk P w K mg base CX0 3 D.a__law_is D.d__law_is ["_law_stay", "_law_days"] (vsp K (VL.falses 2) (VL.ofF (spLawIs D))) := by
  have G__law_number := ok__law_number (P := P) (w := w) (base := base) T
  refine VL.okV T.F__law_is sc__law_is rfl (by decide) (fun cdv A outer s H E hr => have hu := VL.huR hr; ⟨_, (pss_cons (ps_if (pt_not (pt_val (pe_callB call_isi (by rfl) T.n_isinstance (by decide +kernel) (pa_cons (pv 0) (pa_cons (pe_glob (v := .ref D.c_Stay) (by rfl) T.g_Stay rfl) pa_nil)))))
      (pss_one (ps_ret pe_bl))
      pss_nil)
      (pss_one (ps_ret (pe_and (pe_call G__law_number (hr.mono (by decide)) (by rfl) T.g__law_number T.F__law_number.kp T.b__law_number .nil pass0 (pa_cons (pe_fld (pv 0) rfl) (pa_cons (pe_ix ix_seq (pv 1) pe_int (fun _ _ => rfl)) pa_nil))) (pe_one (pe_call G__law_number (hr.mono (by decide)) (by rfl) T.g__law_number T.F__law_number.kp T.b__law_number .nil pass0 (pa_cons (pe_fld (pv 0) rfl) (pa_cons (pe_ix ix_seq (pv 1) pe_int (fun _ _ => rfl)) pa_nil)))))))), ?_⟩)
  apply VL.wvI
  · intro B; walk_at "vi"
  · intro ts Qv Xv h
    obtain ⟨Q0, ⟨p, rfl, k⟩, kq⟩ := h
    walk_at "V"
    refine ⟨_, _, rfl, ?_⟩
    rw [decide_eq_true rfl]
    walk_at "V"
    refine ⟨_, _, rfl, ?_⟩
    rw [decide_eq_true rfl]
    walk_at "V"
    exact kq _ rfl k
theorem ok__law_is (T : Txt K mg D) : FnOk P w K mg base CX0 3 D.a__law_is D.d__law_is ["_law_stay", "_law_days"] (vspF K (spLawIs D)) := VL.okF (okv__law_is T) (fun ts Q h => by obtain ⟨p, rfl, _⟩ := h; rfl)
def wordL (rows : List (Int × Int)) (d : Int) : String := wordP rows d
def spLawWord : VSp := fun vs Q _ => ∃ (rows : List (Int × Int)) (d : Int), vs = [.lst (rows.map tR2), .int d] ∧ rows.length ≤ 4000 ∧ Q (.val (.str (PySem.Str.ofString (wordP rows d)))) []
theorem sc__law_word : FnScope ["_law_rows", "_law_day", "_law_there", "_law_row"] ["_law_rows", "_law_day"] (defScope s__law_word) := ⟨rfl, rfl, rfl, by decide +kernel, rfl, by decide +kernel, by decide +kernel⟩
theorem ok__law_word (T : Txt K mg D) : FnOk P w K mg base CX0 1 D.a__law_word D.d__law_word ["_law_rows", "_law_day"] (vsp K [false, false] spLawWord) := by
  refine VL.okV T.F__law_word sc__law_word rfl (by decide) (fun cdv A outer s H E hr => have hu := VL.huR hr; ⟨_, (pss_cons (ps_setLc (i := 2) (own := [("_law_row", 3)]) (g := gName 3) (by rfl) sc__law_word.nd rfl rfl (sw_true rfl rfl rfl (by decide +kernel)) (VL.pi_dyn (pv 0)) (blkOk_by (own := [("_law_row", 3)]) (N := ["_law_rows", "_law_day", "_law_there", "_law_row"]) (sc := defScope s__law_word) (by decide +kernel)) (fun _ _ _ _ _ => (pg_name (i := 3) sc__law_word.nd rfl (Or.inl rfl))) (fun _ _ _ _ _ => (pts_one (PW.pt (pw_and (pt_cmpR op_le (pe_ix (VL.ix_seqK (K := K) rfl) (pv 3) pe_int (fun _ _ => rfl)) (pv 1) (nomark _)) (pw_and1 (pt_cmpR op_le (pv 1) (pe_ix (VL.ix_seqK (K := K) rfl) (pv 3) pe_int (fun _ _ => rfl)) (nomark _))))))) (fun _ _ _ _ _ => (pv 3)))
      (pss_cons (ps_if (pt_cmpR (op_eqD (VL.hu64 hu)) (pv 0) (pe_lst pa_nil) (nomark _))
      (pss_one (ps_ret pe_str))
      pss_nil)
      (pss_cons (ps_if (pt_cmpR (op_eqD (VL.hu64 hu)) (pv 2) (pe_lst pa_nil) (nomark _))
      (pss_one (ps_ret pe_str))
      pss_nil)
      (pss_cons (ps_if (pt_cmpR (op_eqD (VL.hu64 hu)) (pe_callB VL.call_lenU (by rfl) T.n_len (by decide +kernel) (pa_cons (pv 2) pa_nil)) (pe_callB VL.call_lenU (by rfl) T.n_len (by decide +kernel) (pa_cons (pv 0) pa_nil)) (nomark _))
      (pss_one (ps_ret pe_str))
      pss_nil)
      (pss_one (ps_ret pe_str)))))), ?_⟩)
  apply VL.wvI
  · intro B; walk_at "vi"
  · intro ts Qv Xv h
    obtain ⟨rows, d, rfl, l4, k⟩ := h
    walk_at "V"
    obtain ⟨q, hq⟩ : ∃ q : Int × Int → Bool, q = fun p => decide (p.1 ≤ d ∧ d ≤ p.2) := ⟨_, rfl⟩
    refine lc_filter (xs := rows) (f := tR2) q tR2 (fun i p out hp hl => ?_) ?_
    · walk_at "V"
      by_cases h1 : p.1 ≤ d
      · rw [decide_eq_true h1]
        walk_at "V"
        by_cases h2 : d ≤ p.2
        · rw [decide_eq_true h2]
          walk_at "V"
          exact NL.keep (q := q p) (by rw [hq]; exact decide_eq_true ⟨h1, h2⟩) (by walk_at "le")
        · rw [decide_eq_false h2]
          walk_at "V"
          exact NL.skip (q := q p) (by rw [hq]; exact decide_eq_false fun z => h2 z.2) (by walk_at "le")
      · rw [decide_eq_false h1]
        walk_at "V"
        exact NL.skip (q := q p) (by rw [hq]; exact decide_eq_false fun z => h1 z.1) (by walk_at "le")
    have fl := List.length_filter_le q rows
    have hN : (rows.filter q).length = rows.length ↔ rows.all q = true := by rw [List.length_filter_eq_length_iff, List.all_eq_true]
    have hE : (rows.filter q).isEmpty = !rows.any q := by
      rw [Bool.eq_iff_iff, List.isEmpty_iff, List.filter_eq_nil_iff, Bool.not_eq_true', List.any_eq_false]
    unfold wordP at k
    rw [← hq] at k
    have okF : okD (.lst ((rows.filter q).map tR2)) = true := encR2.list.ok (by decide) _
    have okR : okD (.lst (rows.map tR2)) = true := encR2.list.ok (by decide) _
    have eR : (rows.map tR2).isEmpty = decide (rows = []) := by rw [Bool.eq_iff_iff, List.isEmpty_iff, decide_eq_true_eq, List.map_eq_nil_iff]
    have eF : ((rows.filter q).map tR2).isEmpty = !rows.any q := by rw [← hE, Bool.eq_iff_iff, List.isEmpty_iff, List.isEmpty_iff, List.map_eq_nil_iff]
    walk_at "V"
    rw [eR]
    by_cases h0 : rows = []
    · rw [decide_eq_true h0]
      rw [if_pos h0] at k
      walk_at "V"
      exact k
    rw [decide_eq_false h0]
    rw [if_neg h0] at k
    walk_at "V"
    rw [eF]
    cases hy : rows.any q
    · have hn : rows.all q = false := by
        obtain ⟨p, hp⟩ := List.exists_mem_of_ne_nil rows h0
        rw [Bool.eq_false_iff]
        intro z
        rw [List.all_eq_true] at z
        rw [List.any_eq_false] at hy
        exact hy p hp (z p hp)
      rw [hn, hy] at k
      walk_at "V"
      exact k
    rw [hy] at k
    walk_at "V"
    rw [List.length_map, List.length_map]
    walk_at "vb"
    · have ha : rows.all q = true := hN.mp (by omega)
      rw [ha] at k
      walk_at "V"
      exact k
    · have ha : rows.all q = false := by
        rw [Bool.eq_false_iff]
        intro z
        exact hbr (by have := hN.mpr z; omega)
      rw [ha] at k
      walk_at "V"
      exact k
def spLawItem (D : Ad) : VSpF := fun vs Q => ∃ o, vs = [tOp (tSt D) o, tOp tR2 o] ∧ Q (.bl true)
theorem sc__law_item : FnScope ["_law_actual", "_law_due"] ["_law_actual", "_law_due"] (defScope s__law_item) := ⟨rfl, rfl, rfl, by decide +kernel, rfl, by decide +kernel, by decide +kernel⟩
theorem okv__law_item (T : Txt K mg D) : FnOk P w K mg base CX0 5 D.a__law_item D.d__law_item ["_law_actual", "_law_due"] (vsp K (VL.falses 2) (VL.ofF (spLawItem D))) := by
  have G__law_is := ok__law_is (P := P) (w := w) (base := base) T
  refine VL.okV T.F__law_item sc__law_item rfl (by decide) (fun cdv A outer s H E hr => have hu := VL.huR hr; ⟨_, (pss_cons (ps_if (pt_cmpR VL.op_isNU (pv 1) pe_non (nomark _))
      (pss_one (ps_ret (pe_cmpR VL.op_isNU (pv 0) pe_non (nomark _))))
      pss_nil)
      (pss_cons (ps_if (PW.pt (pw_or (pt_not (pt_val (pe_callB call_isi (by rfl) T.n_isinstance (by decide +kernel) (pa_cons (pv 0) (pa_cons (pe_bltn (v := .ty "tuple") (u := .type "tuple") (by rfl) T.n_tuple (by decide +kernel) rfl) pa_nil))))) (pw_or1 (pt_cmpR (op_neD (VL.hu64 hu)) (pe_callB VL.call_lenU (by rfl) T.n_len (by decide +kernel) (pa_cons (pv 0) pa_nil)) pe_int (nomark _)))))
      (pss_one (ps_ret pe_bl))
      pss_nil)
      (pss_one (ps_ret (pe_and (pe_call G__law_is (hr.mono (by decide)) (by rfl) T.g__law_is T.F__law_is.kp T.b__law_is .nil pass0 (pa_cons (pe_ix ix_seq (pv 0) pe_int (fun _ _ => rfl)) (pa_cons (pe_ix ix_seq (pv 1) pe_int (fun _ _ => rfl)) pa_nil))) (pe_one (pe_call G__law_is (hr.mono (by decide)) (by rfl) T.g__law_is T.F__law_is.kp T.b__law_is .nil pass0 (pa_cons (pe_ix ix_seq (pv 0) pe_int (fun _ _ => rfl)) (pa_cons (pe_ix ix_seq (pv 1) pe_int (fun _ _ => rfl)) pa_nil))))))))), ?_⟩)
  apply VL.wvI
  · intro B; walk_at "vi"
  · intro ts Qv Xv h
    obtain ⟨Q0, ⟨o, rfl, k⟩, kq⟩ := h
    cases o
    · walk_at "V"
      exact kq _ rfl k
    · walk_at "V"
      exact kq _ rfl k
theorem ok__law_item (T : Txt K mg D) : FnOk P w K mg base CX0 5 D.a__law_item D.d__law_item ["_law_actual", "_law_due"] (vspF K (spLawItem D)) := VL.okF (okv__law_item T) (fun ts Q h => by obtain ⟨o, rfl, _⟩ := h; rfl)
end
end Toy
set_option Elab.async false
set_option linter.all false
set_option maxRecDepth 100000
set_option maxHeartbeats 4000000
set_option synthInstance.maxSize 1000000
set_option synthInstance.maxHeartbeats 4000000
namespace Toy
open PySem L2 XR VL
local macro_rules | `(tactic| walk_at "ne") => `(tactic| first | assumption | (apply Ne.symm; assumption) | exact XR.ne_fresh (by assumption) (by walk_at "hp") | exact Ne.symm (XR.ne_fresh (by assumption) (by walk_at "hp")))
local macro_rules | `(tactic| walk_at "hp") => `(tactic| first | assumption | exact upd_same | (refine Eq.trans (upd_ne ?_) ?_; (walk_at "ne"); walk_at "hp"))
local macro_rules | `(tactic| walk_at "sq") => `(tactic| first | walk_at "hp" | exact SqL.of (by walk_at "hp") | exact SqT.of (by walk_at "hp") | exact XR.SqT.same (by assumption) (by assumption) | exact XR.SqL.same (by assumption) (by assumption))
local macro_rules | `(tactic| walk_at "br") => `(tactic| (refine ite2 ?_ ?_ <;> intro hbr <;> (try simp only [decide_eq_true_eq, decide_eq_false_iff_not, V.int.injEq, V.bl.injEq, V.str.injEq, Bool.not_eq_true, Bool.not_eq_eq_eq_not, Bool.not_true, Bool.not_false, ne_eq, Int.reduceToNat, Int.reducePow, Int.reduceMul, Int.reduceAdd, Int.reduceSub, reduceCtorEq, not_true_eq_false, not_false_eq_true, Int.not_lt, Int.not_le] at hbr)))
local macro_rules | `(tactic| walk_at "side") => `(tactic| first
  | exact ⟨by decide, by decide, by decide⟩
  | exact .inl ⟨by decide, by decide⟩
  | exact .inr ⟨by decide, by decide⟩
  | exact XR.divw (by first | decide | omega) (by first | decide | omega)
  | (show (_ : Int) = _; first | rfl | omega)
  | (show (0 : Int) < _; first | decide | assumption | omega)
  | exact .inl ⟨by omega, by omega⟩
  | exact .inr ⟨by omega, by omega⟩
  | exact .inl (XR.cmul_mod (by decide))
  | exact XR.log_lt (by omega) (by omega)
  | decide
  | (rw [sizeLine_eq]; simp; done)
  | (show 2 ≤ sizeLine; decide) | (show 3 ≤ sizeLine; decide) | (show 4 ≤ sizeLine; decide) | (show 5 ≤ sizeLine; decide) | (show 6 ≤ sizeLine; decide) | (show 7 ≤ sizeLine; decide) | (show 1 ≤ sizeLine; decide) | (show 8 ≤ sizeLine; decide) | (show 0 ≤ sizeLine; decide))
local macro_rules | `(tactic| walk_at "rd1") => `(tactic| first
  | refine ⟨_, rfl, ?_⟩
  | refine ⟨_, _, rfl, rfl, ?_⟩
  | refine ⟨_, _, _, _, rfl, rfl, (by walk_at "sq"), rfl, ?_⟩
  | refine ⟨_, _, _, _, rfl, rfl, (by walk_at "hp"), (by walk_at "hp"), (by walk_at "side"), ?_⟩
  | refine ⟨_, _, rfl, .inl (by walk_at "sq"), ?_⟩
  | refine ⟨_, _, rfl, .inl ⟨(by walk_at "sq"), ?_⟩⟩
  | refine ⟨_, _, rfl, .inr (by walk_at "sq"), ?_⟩
  | refine ⟨_, _, _, _, _, rfl, (by walk_at "hp"), (by walk_at "cls"), (by walk_at "noat"), rfl, ?_⟩
  | refine ⟨_, _, _, _, rfl, rfl, (by walk_at "sq"), (by first | assumption | exact XR.at0 | exact XR.at1), ?_⟩
  | refine ⟨rfl, ?_⟩
  | refine And.intro (by walk_at "side") ?_
  | refine .inl ⟨_, rfl, ?_⟩
  | refine And.intro ⟨_, (by walk_at "sq")⟩ ?_
  | refine ⟨_, _, rfl, (by walk_at "sq"), ?_⟩
  | refine ⟨_, _, rfl, ?_⟩
  | refine .inr ⟨_, rfl, (by walk_at "side"), ?_⟩
  | refine ⟨_, _, _, rfl, (by walk_at "hp"), ?_⟩
  | refine iteT ?_
  | refine iteF ?_)
local macro_rules | `(tactic| walk_at "rd") => `(tactic| repeat (walk_at "rd1"))
local macro_rules | `(tactic| walk_at "nn") => `(tactic| (simp only [Int.reduceToNat, Int.reducePow, Int.reduceMul, Int.reduceAdd, Int.reduceSub, Int.reduceNeg]))
local macro_rules | `(tactic| walk_at "dr") => `(tactic| repeat (first | refine And.intro (by first | assumption | walk_at "pre") ?_ | refine And.intro (by first | decide | omega) ?_))
local macro_rules | `(tactic| walk_at "vi") => `(tactic| ((try dsimp only [L2.cxOf, L2.Cx.nox, L2.Cx.wish, L2.Cx.blk, L2.Cx.suite, L2.Cx.tr, L2H.cxH, List.map_cons, List.map_nil]); (try simp only [List.map_cons, List.map_nil]); infer_instance))
local macro_rules | `(tactic| walk_at "w") => `(tactic| conv => whnf)
local macro_rules | `(tactic| walk_at "sz") => `(tactic| first
  | (show _ ≤ sizeLine; rw [sizeLine_eq]; first | decide | omega | (simp; done) | (simp; omega))
  | (show _ < sizeLine; rw [sizeLine_eq]; first | decide | omega | (simp; done) | (simp; omega)))
local macro_rules | `(tactic| walk_at "ok") => `(tactic| first
  | exact encInt.list.ok (by decide) _ | exact encInt.tupl.ok (by decide) _ | exact encStr.list.ok (by decide) _ | exact encStr.tupl.ok (by decide) _
  | exact (encInt.pair encInt).list.ok (by decide) _ | exact (encInt.pair encInt).ok (by decide) _ | exact (encStr.pair encStr).list.ok (by decide) _ | exact (encStr.pair encStr).ok (by decide) _
  | exact encInt.tupl.list.ok (by decide) _)
local macro_rules | `(tactic| walk_at "vs") => `(tactic| first
  | exact trivial
  | assumption
  | exact rfl
  | exact ⟨rfl, rfl⟩
  | walk_at "ok"
  | walk_at "sz"
  | exact .inl (.inr ⟨by decide, by decide⟩)
  | exact .inl (.inl ⟨by first | decide | omega, by first | decide | omega⟩)
  | exact .inl (.inr ⟨by first | decide | omega, by first | decide | omega⟩)
  | exact XR.divw (by first | decide | omega) (by first | decide | omega)
  | (show (0 : Int) < _; first | decide | omega)
  | exact ⟨by first | decide | omega, by first | decide | omega⟩
  | exact ⟨by first | decide | omega, by first | decide | omega, by first | decide | omega⟩
  | exact ⟨by walk_at "sz", by omega, by omega⟩
  | exact ⟨by walk_at "cls", by walk_at "noat"⟩
  | exact ⟨by walk_at "xf", by walk_at "xe"⟩
  | walk_at "exm"
  | decide
  | exact XR.log_lt (by omega) (by omega)
  | ((try dsimp only); (try simp only [List.length_map, List.length_append, List.length_cons, List.length_nil, List.length_eraseIdx]); omega))
local macro_rules | `(tactic| walk_at "v") => `(tactic| (walk_at "w"; (repeat ((first | refine And.intro (by walk_at "vs") ?_ | refine isS_i (by assumption) ?_); walk_at "w")); (try walk_at "n")))
local macro_rules | `(tactic| walk_at "isi") => `(tactic| first | refine ⟨_, VL.IsI.int_int _, ?_⟩ | refine ⟨_, VL.IsI.int_bool _, ?_⟩ | refine ⟨_, VL.IsI.int_str _, ?_⟩ | refine ⟨_, VL.IsI.int_list _, ?_⟩ | refine ⟨_, VL.IsI.int_tuple _, ?_⟩ | refine ⟨_, VL.IsI.bl_int _, ?_⟩ | refine ⟨_, VL.IsI.bl_bool _, ?_⟩ | refine ⟨_, VL.IsI.bl_str _, ?_⟩ | refine ⟨_, VL.IsI.str_str _, ?_⟩ | refine ⟨_, VL.IsI.str_int _, ?_⟩ | refine ⟨_, VL.IsI.str_bool _, ?_⟩ | refine ⟨_, VL.IsI.lst_list _, ?_⟩ | refine ⟨_, VL.IsI.lst_tuple _, ?_⟩ | refine ⟨_, VL.IsI.tup_list _, ?_⟩ | refine ⟨_, VL.IsI.tup_tuple _, ?_⟩ | refine ⟨_, VL.IsI.tup_str _, ?_⟩ | refine ⟨_, VL.IsI.tup_int _, ?_⟩ | refine ⟨_, VL.IsI.dk_dict _, ?_⟩ | refine ⟨_, VL.IsI.non_int, ?_⟩ | refine ⟨_, VL.IsI.non_tuple, ?_⟩ | refine ⟨_, VL.IsI.non_list, ?_⟩ | refine ⟨_, VL.IsI.non_str, ?_⟩)
local macro_rules | `(tactic| walk_at "V") => `(tactic| (walk_at "w"; (repeat ((first | refine And.intro (by walk_at "vs") ?_ | refine isS_i (by assumption) ?_ | refine Or.inr ?_ | walk_at "isi" | walk_at "eis" | refine ⟨_, rfl, ?_⟩); walk_at "w")); (try walk_at "n")))
set_option hygiene false
local macro_rules | `(tactic| walk_at "vb") => `(tactic| (refine br_i ?_ ?_ <;> intro hbr <;> (try simp only [nb, decide_eq_true_eq, decide_eq_false_iff_not, Bool.not_eq_true, Bool.not_eq_eq_eq_not, Bool.not_true, Bool.not_false, ne_eq, Bool.and_eq_true, Bool.or_eq_true, Bool.and_eq_false_imp, Decidable.not_not, Int.not_lt, Int.not_le, bne_iff_ne, Bool.not_eq_false, Bool.or_eq_false_iff, reduceCtorEq, not_true_eq_false, not_false_eq_true] at hbr)))
set_option hygiene true
local macro_rules | `(tactic| walk_at "le") => `(tactic| exact VL.Le.to rfl (Nat.le_of_ble_eq_true rfl))
local macro_rules | `(tactic| walk_at "d") => `(tactic| dsimp only at *)
local macro_rules | `(tactic| walk_at "n") => `(tactic| dsimp only [VL.env0, VL.slots0, VL.mem0, VL.nones, VL.falses, VL.put_mk, VL.push_mk, VL.set_mk, VL.unset_mk, VL.wipe_nl, VL.wipe_cs, VL.el_mk, VL.frs_nl, VL.frs_cs, VL.fr_mk, VL.frX, VL.frSl, VL.nth, Nat.reduceAdd, Nat.reduceSub, Nat.reduceMul, Nat.reduceBEq, List.set, List.length_cons, List.length_nil, List.cons_append, List.nil_append, VL.qI, VL.qT, VL.qR])
local macro_rules | `(tactic| walk_at "cls") => `(tactic| first | exact T_cl_Stay (by assumption))
local macro_rules | `(tactic| walk_at "noat") => `(tactic| first | exact Txt.no_Stay_come (by assumption) | exact Txt.no_Stay_go (by assumption))
local macro_rules | `(tactic| walk_at "eis") => `(tactic| first | fail)
local macro_rules | `(tactic| walk_at "exm") => `(tactic| first | fail)
local macro_rules | `(tactic| walk_at "xf") => `(tactic| first | exact T_xf_EmptyStay (by assumption) | exact T_xf_OutOfRange (by assumption) | fail)
local macro_rules | `(tactic| walk_at "xe") => `(tactic| first | exact Txt.e_EmptyStay_come (by assumption) | exact Txt.e_EmptyStay_go (by assumption) | exact Txt.e_OutOfRange_value (by assumption) | fail)
local macro_rules | `(tactic| walk_at "isi") => `(tactic| first | refine ⟨_, VL.IsI.mk _ _ (.obj (fun _ _ _ _ e => T_ty_Stay (by assumption) e)) (.cls _) (Txt.zo_Stay_Stay (by assumption)), ?_⟩ | refine ⟨_, VL.IsI.mk _ _ (.obj (fun _ _ _ _ e => T_ty_Stay (by assumption) e)) (.ty _) (Txt.zo_Stay_bool (by assumption)), ?_⟩ | refine ⟨_, VL.IsI.mk _ _ (.obj (fun _ _ _ _ e => T_ty_Stay (by assumption) e)) (.ty _) (Txt.zo_Stay_int (by assumption)), ?_⟩ | refine ⟨_, VL.IsI.mk _ _ (.obj (fun _ _ _ _ e => T_ty_Stay (by assumption) e)) (.ty _) (Txt.zo_Stay_str (by assumption)), ?_⟩ | refine ⟨_, VL.IsI.mk _ _ (.obj (fun _ _ _ _ e => T_ty_Stay (by assumption) e)) (.ty _) (Txt.zo_Stay_tuple (by assumption)), ?_⟩)
local macro_rules | `(tactic| walk_at "vs") => `(tactic| exact Txt.nit (by assumption))
section
variable {P : Program} {w : World} {K : PySem.W.Frag} {mg : Str → Option Value} {base : Heap} {D : Ad}
local macro_rules | `(tactic| walk_at "vs") => `(tactic| exact VL.strOk_of _)
theorem firstIn_none {p : Int × Int} {m : Bool} : ∀ {qs : List (Int × Int)}, firstIn p m qs = none ↔ ∀ q ∈ qs, meet p q ≠ m
  | [] => ⟨fun _ q hq => (by cases hq), fun _ => rfl⟩
  | q :: qs => by
    unfold firstIn
    by_cases h : meet p q = m
    · rw [if_pos h]
      exact ⟨fun z => (by cases z), fun z => absurd h (z q List.mem_cons_self)⟩
    · rw [if_neg h, firstIn_none]
      constructor
      · intro z x hx
        rcases List.mem_cons.mp hx with rfl | hx
        · exact h
        · exact z x hx
      · exact fun z x hx => z x (List.mem_cons_of_mem _ hx)
theorem firstP_none {m : Bool} {qs : List (Int × Int)} : ∀ {ps : List (Int × Int)}, firstP m qs ps = none ↔ ∀ p ∈ ps, ∀ q ∈ qs, meet p q ≠ m
  | [] => ⟨fun _ q hq => (by cases hq), fun _ => rfl⟩
  | p :: ps => by
    unfold firstP
    cases h : firstIn p m qs with
    | some x =>
      constructor
      · intro z
        cases z
      · intro z
        rw [firstIn_none.mpr (z p List.mem_cons_self)] at h
        cases h
    | none =>
      rw [firstP_none]
      constructor
      · intro z x hx
        rcases List.mem_cons.mp hx with rfl | hx
        · exact firstIn_none.mp h
        · exact z x hx
      · exact fun z x hx => z x (List.mem_cons_of_mem _ hx)
theorem apart_iff {l : Int} {n1 n2 : List (Int × Bool)} {r1 r2 : List (Int × Int)} (R1 : Rows l n1 r1) (R2 : Rows l n2 r2) : firstP false (least r2) (least r1) = none ↔ firstP false r2 r1 = none := by
  rw [firstP_none, firstP_none]
  constructor
  · intro h p hp q hq e
    obtain ⟨p', hp', a1, a2⟩ := small_of R1 ((R1.mem p.1 p.2).mp hp)
    obtain ⟨q', hq', b1, b2⟩ := small_of R2 ((R2.mem q.1 q.2).mp hq)
    refine h p' hp' q' hq' ?_
    have e := of_decide_eq_false e
    exact decide_eq_false (by omega)
  · intro h p hp q hq
    exact h p (List.mem_filter.mp hp).1 q (List.mem_filter.mp hq).1
theorem together_iff {l : Int} {n1 n2 : List (Int × Bool)} {r1 r2 : List (Int × Int)} (R1 : Rows l n1 r1) (R2 : Rows l n2 r2) : firstP true (greatest r2) (greatest r1) = none ↔ firstP true r2 r1 = none := by
  rw [firstP_none, firstP_none]
  constructor
  · intro h p hp q hq e
    obtain ⟨p', hp', a1, a2⟩ := big_of R1 ((R1.mem p.1 p.2).mp hp)
    obtain ⟨q', hq', b1, b2⟩ := big_of R2 ((R2.mem q.1 q.2).mp hq)
    refine h p' hp' q' hq' ?_
    have e := of_decide_eq_true e
    exact decide_eq_true (by omega)
  · intro h p hp q hq
    exact h p (List.mem_filter.mp hp).1 q (List.mem_filter.mp hq).1
def tMeet (D : Ad) (r1 r2 : List (Int × Int)) : T := .tup [tOp (tSt D) (firstP false (least r2) (least r1)), tOp (tSt D) (firstP true (greatest r2) (greatest r1))]
def spMeeting (D : Ad) : VSp := fun vs Q _ => ∃ (b1 b2 : Bool) (n1 n2 : List (Int × Bool)) (l : Int) (r1 r2 : List (Int × Int)), vs = [tSqN b1 (n1.map tN), tSqN b2 (n2.map tN), .int l] ∧ NOk l n1 ∧ NOk l n2 ∧ 0 ≤ l ∧ l ≤ 60 ∧ Rows l n1 r1 ∧ Rows l n2 r2 ∧ Q (.val (tMeet D r1 r2)) []
theorem sc_meeting_pairs : FnScope ["notes", "other", "last", "apart", "together"] ["notes", "other", "last"] (defScope s_meeting_pairs) := ⟨rfl, rfl, rfl, by decide +kernel, rfl, by decide +kernel, by decide +kernel⟩
theorem ok_meeting_pairs (T : Txt K mg D) : FnOk P w K mg base CX0 9 D.a_meeting_pairs D.d_meeting_pairs ["notes", "other", "last"] (vsp K [false, false, false] (spMeeting D)) := by
  have G__first_pair := ok__first_pair (P := P) (w := w) (base := base) T
  have G_greatest_stays := ok_greatest_stays (P := P) (w := w) (base := base) T
  have G_least_stays := ok_least_stays (P := P) (w := w) (base := base) T
  refine VL.okV T.F_meeting_pairs sc_meeting_pairs rfl (by decide) (fun cdv A outer s H E hr => have hu := VL.huR hr; ⟨_, (pss_cons (ps_set (i := 3) sc_meeting_pairs.nd rfl (Or.inl rfl) (pe_call G__first_pair (hr.mono (by decide)) (by rfl) T.g__first_pair T.F__first_pair.kp T.b__first_pair .nil pass0 (pa_cons (pe_call G_least_stays (hr.mono (by decide)) (by rfl) T.g_least_stays T.F_least_stays.kp T.b_least_stays .nil pass0 (pa_cons (pv 0) (pa_cons (pv 2) pa_nil))) (pa_cons (pe_call G_least_stays (hr.mono (by decide)) (by rfl) T.g_least_stays T.F_least_stays.kp T.b_least_stays .nil pass0 (pa_cons (pv 1) (pa_cons (pv 2) pa_nil))) (pa_cons pe_bl pa_nil)))))
      (pss_cons (ps_set (i := 4) sc_meeting_pairs.nd rfl (Or.inl rfl) (pe_call G__first_pair (hr.mono (by decide)) (by rfl) T.g__first_pair T.F__first_pair.kp T.b__first_pair .nil pass0 (pa_cons (pe_call G_greatest_stays (hr.mono (by decide)) (by rfl) T.g_greatest_stays T.F_greatest_stays.kp T.b_greatest_stays .nil pass0 (pa_cons (pv 0) (pa_cons (pv 2) pa_nil))) (pa_cons (pe_call G_greatest_stays (hr.mono (by decide)) (by rfl) T.g_greatest_stays T.F_greatest_stays.kp T.b_greatest_stays .nil pass0 (pa_cons (pv 1) (pa_cons (pv 2) pa_nil))) (pa_cons pe_bl pa_nil)))))
      (pss_one (ps_ret (pe_tup (pa_cons (pv 3) (pa_cons (pv 4) pa_nil))))))), ?_⟩)
  apply VL.wvI
  · intro B; walk_at "vi"
  · intro ts Qv Xv h
    obtain ⟨b1, b2, n1, n2, l, r1, r2, rfl, o1, o2, l0, l6, R1, R2, k⟩ := h
    walk_at "V"
    refine ⟨b1, n1, l, r1, rfl, o1, l0, l6, R1, ?_⟩
    walk_at "V"
    refine ⟨b2, n2, l, r2, rfl, o2, l0, l6, R2, ?_⟩
    walk_at "V"
    try refine ⟨least r1, least r2, false, rfl, ?_⟩
    walk_at "V"
    refine ⟨b1, n1, l, r1, rfl, o1, l0, l6, R1, ?_⟩
    walk_at "V"
    refine ⟨b2, n2, l, r2, rfl, o2, l0, l6, R2, ?_⟩
    walk_at "V"
    try refine ⟨greatest r1, greatest r2, true, rfl, ?_⟩
    walk_at "V"
    exact k
def spLawPairs (D : Ad) : VSp := fun vs Q _ => ∃ (n1 n2 : List (Int × Bool)) (l : Int) (r1 r2 : List (Int × Int)), vs = [tMeet D r1 r2, .lst (r1.map tR2), .lst (r2.map tR2)] ∧ Rows l n1 r1 ∧ Rows l n2 r2 ∧ Q (.val (.bl true)) []
theorem sc__law_pairs : FnScope ["_law_actual", "_law_mine", "_law_others"] ["_law_actual", "_law_mine", "_law_others"] (defScope s__law_pairs) := ⟨rfl, rfl, rfl, by decide +kernel, rfl, by decide +kernel, by decide +kernel⟩
theorem ok__law_pairs (T : Txt K mg D) : FnOk P w K mg base CX0 7 D.a__law_pairs D.d__law_pairs ["_law_actual", "_law_mine", "_law_others"] (vsp K [false, false, false] (spLawPairs D)) := by
  have G__law_first_pair := ok__law_first_pair (P := P) (w := w) (base := base) T
  have G__law_item := ok__law_item (P := P) (w := w) (base := base) T
  have G__law_greatest := ok__law_greatest (P := P) (w := w) (base := base) T
  have G__law_least := ok__law_least (P := P) (w := w) (base := base) T
  refine VL.okV T.F__law_pairs sc__law_pairs rfl (by decide) (fun cdv A outer s H E hr => have hu := VL.huR hr; ⟨_, (pss_cons (ps_if (PW.pt (pw_or (pt_not (pt_val (pe_callB call_isi (by rfl) T.n_isinstance (by decide +kernel) (pa_cons (pv 0) (pa_cons (pe_bltn (v := .ty "tuple") (u := .type "tuple") (by rfl) T.n_tuple (by decide +kernel) rfl) pa_nil))))) (pw_or1 (pt_cmpR (op_neD (VL.hu64 hu)) (pe_callB VL.call_lenU (by rfl) T.n_len (by decide +kernel) (pa_cons (pv 0) pa_nil)) pe_int (nomark _)))))
      (pss_one (ps_ret pe_bl))
      pss_nil)
      (pss_cons (ps_if (pt_not (pt_val (pe_call G__law_item (hr.mono (by decide)) (by rfl) T.g__law_item T.F__law_item.kp T.b__law_item .nil pass0 (pa_cons (pe_ix ix_seq (pv 0) pe_int (fun _ _ => rfl)) (pa_cons (pe_call G__law_first_pair (hr.mono (by decide)) (by rfl) T.g__law_first_pair T.F__law_first_pair.kp T.b__law_first_pair .nil pass0 (pa_cons (pe_call G__law_least (hr.mono (by decide)) (by rfl) T.g__law_least T.F__law_least.kp T.b__law_least .nil pass0 (pa_cons (pv 1) pa_nil)) (pa_cons (pe_call G__law_least (hr.mono (by decide)) (by rfl) T.g__law_least T.F__law_least.kp T.b__law_least .nil pass0 (pa_cons (pv 2) pa_nil)) (pa_cons pe_bl pa_nil)))) pa_nil)))))
      (pss_one (ps_ret pe_bl))
      pss_nil)
      (pss_cons (ps_if (pt_not (pt_val (pe_call G__law_item (hr.mono (by decide)) (by rfl) T.g__law_item T.F__law_item.kp T.b__law_item .nil pass0 (pa_cons (pe_ix ix_seq (pv 0) pe_int (fun _ _ => rfl)) (pa_cons (pe_call G__law_first_pair (hr.mono (by decide)) (by rfl) T.g__law_first_pair T.F__law_first_pair.kp T.b__law_first_pair .nil pass0 (pa_cons (pe_call G__law_greatest (hr.mono (by decide)) (by rfl) T.g__law_greatest T.F__law_greatest.kp T.b__law_greatest .nil pass0 (pa_cons (pv 1) pa_nil)) (pa_cons (pe_call G__law_greatest (hr.mono (by decide)) (by rfl) T.g__law_greatest T.F__law_greatest.kp T.b__law_greatest .nil pass0 (pa_cons (pv 2) pa_nil)) (pa_cons pe_bl pa_nil)))) pa_nil)))))
      (pss_one (ps_ret pe_bl))
      pss_nil)
      (pss_cons (ps_if (pt_cmpR op_gt (pe_op VL.op_mulU (pe_callB VL.call_lenU (by rfl) T.n_len (by decide +kernel) (pa_cons (pv 1) pa_nil)) (pe_callB VL.call_lenU (by rfl) T.n_len (by decide +kernel) (pa_cons (pv 2) pa_nil))) pe_int (nomark _))
      (pss_one (ps_ret pe_bl))
      pss_nil)
      (pss_cons (ps_if (pt_cmpR (op_neD (VL.hu64 hu)) (pe_cmpR VL.op_isNU (pe_ix ix_seq (pv 0) pe_int (fun _ _ => rfl)) pe_non (nomark _)) (pe_cmpR VL.op_isNU (pe_call G__law_first_pair (hr.mono (by decide)) (by rfl) T.g__law_first_pair T.F__law_first_pair.kp T.b__law_first_pair .nil pass0 (pa_cons (pv 1) (pa_cons (pv 2) (pa_cons pe_bl pa_nil)))) pe_non (nomark _)) (nomark _))
      (pss_one (ps_ret pe_bl))
      pss_nil)
      (pss_one (ps_ret (pe_cmpR (op_eqD (VL.hu64 hu)) (pe_cmpR VL.op_isNU (pe_ix ix_seq (pv 0) pe_int (fun _ _ => rfl)) pe_non (nomark _)) (pe_cmpR VL.op_isNU (pe_call G__law_first_pair (hr.mono (by decide)) (by rfl) T.g__law_first_pair T.F__law_first_pair.kp T.b__law_first_pair .nil pass0 (pa_cons (pv 1) (pa_cons (pv 2) (pa_cons pe_bl pa_nil)))) pe_non (nomark _)) (nomark _))))))))), ?_⟩)
  apply VL.wvI
  · intro B; walk_at "vi"
  · intro ts Qv Xv h
    obtain ⟨n1, n2, l, r1, r2, rfl, R1, R2, k⟩ := h
    have a1 := R1.ln
    have a2 := R2.ln
    have nonS : ∀ o, isNon (tOp (tSt D) o) = o.isNone := fun o => by cases o <;> rfl
    have nonR : ∀ o, isNon (tOp tR2 o) = o.isNone := fun o => by cases o <;> rfl
    have isn : ∀ {α : Type} (o : Option α), o.isNone = decide (o = none) := fun o => by cases o <;> rfl
    have e1 : (firstP false (least r2) (least r1)).isNone = (firstP false r2 r1).isNone := by rw [Bool.eq_iff_iff, Option.isNone_iff_eq_none, Option.isNone_iff_eq_none]; exact apart_iff R1 R2
    have e2 : (firstP true (greatest r2) (greatest r1)).isNone = (firstP true r2 r1).isNone := by rw [Bool.eq_iff_iff, Option.isNone_iff_eq_none, Option.isNone_iff_eq_none]; exact together_iff R1 R2
    walk_at "V"
    refine ⟨least r1, least r2, false, rfl, ?_⟩
    walk_at "V"
    try refine ⟨_, rfl, ?_⟩
    walk_at "V"
    refine ⟨greatest r1, greatest r2, true, rfl, ?_⟩
    walk_at "V"
    try refine ⟨_, rfl, ?_⟩
    walk_at "V"
    rw [List.length_map, List.length_map]
    have pp : ((r1.length : Int)) * (r2.length : Int) ≤ 4000 * 4000 := Int.mul_le_mul (by omega) (by omega) (by omega) (by omega)
    have p0 : 0 ≤ ((r1.length : Int)) * (r2.length : Int) := Int.mul_nonneg (by omega) (by omega)
    refine ⟨?_, ?_⟩
    · exact .inl (.inl ⟨by omega, by omega⟩)
    walk_at "V"
    walk_at "vb"
    · walk_at "V"
      exact k
    walk_at "V"
    refine ⟨r1, r2, false, rfl, ?_⟩
    walk_at "V"
    rw [nonS, nonR, e1, decide_eq_true rfl]
    walk_at "V"
    refine ⟨r1, r2, true, rfl, ?_⟩
    walk_at "V"
    rw [nonS, nonR, e2, decide_eq_true rfl]
    exact k
end
end Toy
set_option Elab.async false
set_option linter.all false
set_option maxRecDepth 100000
set_option maxHeartbeats 4000000
set_option synthInstance.maxSize 1000000
set_option synthInstance.maxHeartbeats 4000000
namespace Toy
open PySem L2 XR VL
local macro_rules | `(tactic| walk_at "ne") => `(tactic| first | assumption | (apply Ne.symm; assumption) | exact XR.ne_fresh (by assumption) (by walk_at "hp") | exact Ne.symm (XR.ne_fresh (by assumption) (by walk_at "hp")))
local macro_rules | `(tactic| walk_at "hp") => `(tactic| first | assumption | exact upd_same | (refine Eq.trans (upd_ne ?_) ?_; (walk_at "ne"); walk_at "hp"))
local macro_rules | `(tactic| walk_at "sq") => `(tactic| first | walk_at "hp" | exact SqL.of (by walk_at "hp") | exact SqT.of (by walk_at "hp") | exact XR.SqT.same (by assumption) (by assumption) | exact XR.SqL.same (by assumption) (by assumption))
local macro_rules | `(tactic| walk_at "br") => `(tactic| (refine ite2 ?_ ?_ <;> intro hbr <;> (try simp only [decide_eq_true_eq, decide_eq_false_iff_not, V.int.injEq, V.bl.injEq, V.str.injEq, Bool.not_eq_true, Bool.not_eq_eq_eq_not, Bool.not_true, Bool.not_false, ne_eq, Int.reduceToNat, Int.reducePow, Int.reduceMul, Int.reduceAdd, Int.reduceSub, reduceCtorEq, not_true_eq_false, not_false_eq_true, Int.not_lt, Int.not_le] at hbr)))
local macro_rules | `(tactic| walk_at "side") => `(tactic| first
  | exact ⟨by decide, by decide, by decide⟩
  | exact .inl ⟨by decide, by decide⟩
  | exact .inr ⟨by decide, by decide⟩
  | exact XR.divw (by first | decide | omega) (by first | decide | omega)
  | (show (_ : Int) = _; first | rfl | omega)
  | (show (0 : Int) < _; first | decide | assumption | omega)
  | exact .inl ⟨by omega, by omega⟩
  | exact .inr ⟨by omega, by omega⟩
  | exact .inl (XR.cmul_mod (by decide))
  | exact XR.log_lt (by omega) (by omega)
  | decide
  | (rw [sizeLine_eq]; simp; done)
  | (show 2 ≤ sizeLine; decide) | (show 3 ≤ sizeLine; decide) | (show 4 ≤ sizeLine; decide) | (show 5 ≤ sizeLine; decide) | (show 6 ≤ sizeLine; decide) | (show 7 ≤ sizeLine; decide) | (show 1 ≤ sizeLine; decide) | (show 8 ≤ sizeLine; decide) | (show 0 ≤ sizeLine; decide))
local macro_rules | `(tactic| walk_at "rd1") => `(tactic| first
  | refine ⟨_, rfl, ?_⟩
  | refine ⟨_, _, rfl, rfl, ?_⟩
  | refine ⟨_, _, _, _, rfl, rfl, (by walk_at "sq"), rfl, ?_⟩
  | refine ⟨_, _, _, _, rfl, rfl, (by walk_at "hp"), (by walk_at "hp"), (by walk_at "side"), ?_⟩
  | refine ⟨_, _, rfl, .inl (by walk_at "sq"), ?_⟩
  | refine ⟨_, _, rfl, .inl ⟨(by walk_at "sq"), ?_⟩⟩
  | refine ⟨_, _, rfl, .inr (by walk_at "sq"), ?_⟩
  | refine ⟨_, _, _, _, _, rfl, (by walk_at "hp"), (by walk_at "cls"), (by walk_at "noat"), rfl, ?_⟩
  | refine ⟨_, _, _, _, rfl, rfl, (by walk_at "sq"), (by first | assumption | exact XR.at0 | exact XR.at1), ?_⟩
  | refine ⟨rfl, ?_⟩
  | refine And.intro (by walk_at "side") ?_
  | refine .inl ⟨_, rfl, ?_⟩
  | refine And.intro ⟨_, (by walk_at "sq")⟩ ?_
  | refine ⟨_, _, rfl, (by walk_at "sq"), ?_⟩
  | refine ⟨_, _, rfl, ?_⟩
  | refine .inr ⟨_, rfl, (by walk_at "side"), ?_⟩
  | refine ⟨_, _, _, rfl, (by walk_at "hp"), ?_⟩
  | refine iteT ?_
  | refine iteF ?_)
local macro_rules | `(tactic| walk_at "rd") => `(tactic| repeat (walk_at "rd1"))
local macro_rules | `(tactic| walk_at "nn") => `(tactic| (simp only [Int.reduceToNat, Int.reducePow, Int.reduceMul, Int.reduceAdd, Int.reduceSub, Int.reduceNeg]))
local macro_rules | `(tactic| walk_at "dr") => `(tactic| repeat (first | refine And.intro (by first | assumption | walk_at "pre") ?_ | refine And.intro (by first | decide | omega) ?_))
local macro_rules | `(tactic| walk_at "vi") => `(tactic| ((try dsimp only [L2.cxOf, L2.Cx.nox, L2.Cx.wish, L2.Cx.blk, L2.Cx.suite, L2.Cx.tr, L2H.cxH, List.map_cons, List.map_nil]); (try simp only [List.map_cons, List.map_nil]); infer_instance))
local macro_rules | `(tactic| walk_at "w") => `(tactic| conv => whnf)
local macro_rules | `(tactic| walk_at "sz") => `(tactic| first
  | (show _ ≤ sizeLine; rw [sizeLine_eq]; first | decide | omega | (simp; done) | (simp; omega))
  | (show _ < sizeLine; rw [sizeLine_eq]; first | decide | omega | (simp; done) | (simp; omega)))
local macro_rules | `(tactic| walk_at "ok") => `(tactic| first
  | exact encInt.list.ok (by decide) _ | exact encInt.tupl.ok (by decide) _ | exact encStr.list.ok (by decide) _ | exact encStr.tupl.ok (by decide) _
  | exact (encInt.pair encInt).list.ok (by decide) _ | exact (encInt.pair encInt).ok (by decide) _ | exact (encStr.pair encStr).list.ok (by decide) _ | exact (encStr.pair encStr).ok (by decide) _
  | exact encInt.tupl.list.ok (by decide) _)
local macro_rules | `(tactic| walk_at "vs") => `(tactic| first
  | exact trivial
  | assumption
  | exact rfl
  | exact ⟨rfl, rfl⟩
  | walk_at "ok"
  | walk_at "sz"
  | exact .inl (.inr ⟨by decide, by decide⟩)
  | exact .inl (.inl ⟨by first | decide | omega, by first | decide | omega⟩)
  | exact .inl (.inr ⟨by first | decide | omega, by first | decide | omega⟩)
  | exact XR.divw (by first | decide | omega) (by first | decide | omega)
  | (show (0 : Int) < _; first | decide | omega)
  | exact ⟨by first | decide | omega, by first | decide | omega⟩
  | exact ⟨by first | decide | omega, by first | decide | omega, by first | decide | omega⟩
  | exact ⟨by walk_at "sz", by omega, by omega⟩
  | exact ⟨by walk_at "cls", by walk_at "noat"⟩
  | exact ⟨by walk_at "xf", by walk_at "xe"⟩
  | walk_at "exm"
  | decide
  | exact XR.log_lt (by omega) (by omega)
  | ((try dsimp only); (try simp only [List.length_map, List.length_append, List.length_cons, List.length_nil, List.length_eraseIdx]); omega))
local macro_rules | `(tactic| walk_at "v") => `(tactic| (walk_at "w"; (repeat ((first | refine And.intro (by walk_at "vs") ?_ | refine isS_i (by assumption) ?_); walk_at "w")); (try walk_at "n")))
local macro_rules | `(tactic| walk_at "isi") => `(tactic| first | refine ⟨_, VL.IsI.int_int _, ?_⟩ | refine ⟨_, VL.IsI.int_bool _, ?_⟩ | refine ⟨_, VL.IsI.int_str _, ?_⟩ | refine ⟨_, VL.IsI.int_list _, ?_⟩ | refine ⟨_, VL.IsI.int_tuple _, ?_⟩ | refine ⟨_, VL.IsI.bl_int _, ?_⟩ | refine ⟨_, VL.IsI.bl_bool _, ?_⟩ | refine ⟨_, VL.IsI.bl_str _, ?_⟩ | refine ⟨_, VL.IsI.str_str _, ?_⟩ | refine ⟨_, VL.IsI.str_int _, ?_⟩ | refine ⟨_, VL.IsI.str_bool _, ?_⟩ | refine ⟨_, VL.IsI.lst_list _, ?_⟩ | refine ⟨_, VL.IsI.lst_tuple _, ?_⟩ | refine ⟨_, VL.IsI.tup_list _, ?_⟩ | refine ⟨_, VL.IsI.tup_tuple _, ?_⟩ | refine ⟨_, VL.IsI.tup_str _, ?_⟩ | refine ⟨_, VL.IsI.tup_int _, ?_⟩ | refine ⟨_, VL.IsI.dk_dict _, ?_⟩ | refine ⟨_, VL.IsI.non_int, ?_⟩ | refine ⟨_, VL.IsI.non_tuple, ?_⟩ | refine ⟨_, VL.IsI.non_list, ?_⟩ | refine ⟨_, VL.IsI.non_str, ?_⟩)
local macro_rules | `(tactic| walk_at "V") => `(tactic| (walk_at "w"; (repeat ((first | refine And.intro (by walk_at "vs") ?_ | refine isS_i (by assumption) ?_ | refine Or.inr ?_ | walk_at "isi" | walk_at "eis" | refine ⟨_, rfl, ?_⟩); walk_at "w")); (try walk_at "n")))
set_option hygiene false
local macro_rules | `(tactic| walk_at "vb") => `(tactic| (refine br_i ?_ ?_ <;> intro hbr <;> (try simp only [nb, decide_eq_true_eq, decide_eq_false_iff_not, Bool.not_eq_true, Bool.not_eq_eq_eq_not, Bool.not_true, Bool.not_false, ne_eq, Bool.and_eq_true, Bool.or_eq_true, Bool.and_eq_false_imp, Decidable.not_not, Int.not_lt, Int.not_le, bne_iff_ne, Bool.not_eq_false, Bool.or_eq_false_iff, reduceCtorEq, not_true_eq_false, not_false_eq_true] at hbr)))
set_option hygiene true
local macro_rules | `(tactic| walk_at "le") => `(tactic| exact VL.Le.to rfl (Nat.le_of_ble_eq_true rfl))
local macro_rules | `(tactic| walk_at "d") => `(tactic| dsimp only at *)
local macro_rules | `(tactic| walk_at "n") => `(tactic| dsimp only [VL.env0, VL.slots0, VL.mem0, VL.nones, VL.falses, VL.put_mk, VL.push_mk, VL.set_mk, VL.unset_mk, VL.wipe_nl, VL.wipe_cs, VL.el_mk, VL.frs_nl, VL.frs_cs, VL.fr_mk, VL.frX, VL.frSl, VL.nth, Nat.reduceAdd, Nat.reduceSub, Nat.reduceMul, Nat.reduceBEq, List.set, List.length_cons, List.length_nil, List.cons_append, List.nil_append, VL.qI, VL.qT, VL.qR])
local macro_rules | `(tactic| walk_at "cls") => `(tactic| first | exact T_cl_Stay (by assumption))
local macro_rules | `(tactic| walk_at "noat") => `(tactic| first | exact Txt.no_Stay_come (by assumption) | exact Txt.no_Stay_go (by assumption))
local macro_rules | `(tactic| walk_at "eis") => `(tactic| first | fail)
local macro_rules | `(tactic| walk_at "exm") => `(tactic| first | fail)
local macro_rules | `(tactic| walk_at "xf") => `(tactic| first | exact T_xf_EmptyStay (by assumption) | exact T_xf_OutOfRange (by assumption) | fail)
local macro_rules | `(tactic| walk_at "xe") => `(tactic| first | exact Txt.e_EmptyStay_come (by assumption) | exact Txt.e_EmptyStay_go (by assumption) | exact Txt.e_OutOfRange_value (by assumption) | fail)
local macro_rules | `(tactic| walk_at "isi") => `(tactic| first | refine ⟨_, VL.IsI.mk _ _ (.obj (fun _ _ _ _ e => T_ty_Stay (by assumption) e)) (.cls _) (Txt.zo_Stay_Stay (by assumption)), ?_⟩ | refine ⟨_, VL.IsI.mk _ _ (.obj (fun _ _ _ _ e => T_ty_Stay (by assumption) e)) (.ty _) (Txt.zo_Stay_bool (by assumption)), ?_⟩ | refine ⟨_, VL.IsI.mk _ _ (.obj (fun _ _ _ _ e => T_ty_Stay (by assumption) e)) (.ty _) (Txt.zo_Stay_int (by assumption)), ?_⟩ | refine ⟨_, VL.IsI.mk _ _ (.obj (fun _ _ _ _ e => T_ty_Stay (by assumption) e)) (.ty _) (Txt.zo_Stay_str (by assumption)), ?_⟩ | refine ⟨_, VL.IsI.mk _ _ (.obj (fun _ _ _ _ e => T_ty_Stay (by assumption) e)) (.ty _) (Txt.zo_Stay_tuple (by assumption)), ?_⟩)
local macro_rules | `(tactic| walk_at "vs") => `(tactic| exact Txt.nit (by assumption))
section
variable {P : Program} {w : World} {K : PySem.W.Frag} {mg : Str → Option Value} {base : Heap} {D : Ad}
local macro_rules | `(tactic| walk_at "vs") => `(tactic| exact VL.strOk_of _)
def spWords (D : Ad) : VSp := fun vs Q _ => ∃ (bx : T) (b : Bool) (ns : List (Int × Bool)) (l : Int) (rows : List (Int × Int)), vs = [bx, tSqN b (ns.map tN), .int l, .lst (rows.map tR2)] ∧ Bx bx ∧ NOk l ns ∧ 0 ≤ l ∧ l ≤ 60 ∧ Rows l ns rows ∧ ∀ bx', Bx bx' → Q (.val (.bl true)) [bx']
theorem sc__law_words : FnScope ["_law_box", "_law_notes_here", "_law_last", "_law_rows", "_law_day", "_law_days", "_law_far", "_law_actual"] ["_law_box", "_law_notes_here", "_law_last", "_law_rows"] (defScope s__law_words) := ⟨rfl, rfl, rfl, by decide +kernel, rfl, by decide +kernel, by decide +kernel⟩
theorem ok__law_words (T : Txt K mg D) : FnOk P w K mg base CX0 11 D.a__law_words D.d__law_words ["_law_box", "_law_notes_here", "_law_last", "_law_rows"] (vsp K [true, false, false, false] (spWords D)) := by
  have G__law_word := ok__law_word (P := P) (w := w) (base := base) T
  have G_surely_on := ok_surely_on (P := P) (w := w) (base := base) T
  have G__law_take := ok__law_take (P := P) (w := w) (base := base) T
  refine VL.okV T.F__law_words sc__law_words rfl (by decide) (fun cdv A outer s H E hr => have hu := VL.huR hr; ⟨_, (pss_cons (ps_setLc (i := 5) (own := [("_law_day", 4)]) (g := gName 4) (tt := tYes) (by rfl) sc__law_words.nd rfl rfl (sw_true rfl rfl rfl (by decide +kernel)) (pi_range1 (by rfl) T.n_range (pa_cons (pe_op VL.op_addU (pv 2) pe_int) pa_nil)) (blkOk_by (own := [("_law_day", 4)]) (N := ["_law_box", "_law_notes_here", "_law_last", "_law_rows", "_law_day", "_law_days", "_law_far", "_law_actual"]) (sc := defScope s__law_words) (by decide +kernel)) (fun _ _ _ _ _ => (pg_name (i := 4) sc__law_words.nd rfl (Or.inl rfl))) (fun _ _ _ _ _ => pts_nil) (fun _ _ _ _ _ => (pe_op op_sub (pv 4) pe_int)))
      (pss_cons (ps_if (pt_cmpR op_gt (pv 2) pe_int (nomark _))
      (pss_one (ps_set (i := 5) sc__law_words.nd rfl (Or.inl rfl) (pe_lst (pa_cons (pe_un un_neg pe_int) (pa_cons (pv 2) (pa_cons (pe_call G__law_take (hr.mono (by decide)) (by rfl) T.g__law_take T.F__law_take.kp T.b__law_take .nil pass0 (pa_cons (pv 0) (pa_cons (pe_op VL.op_addU (pv 2) pe_int) pa_nil))) pa_nil))))))
      pss_nil)
      (pss_cons (ps_set (i := 6) sc__law_words.nd rfl (Or.inl rfl) (pe_call G__law_take (hr.mono (by decide)) (by rfl) T.g__law_take T.F__law_take.kp T.b__law_take .nil pass0 (pa_cons (pv 0) (pa_cons (pe_op op_pow pe_int pe_int) pa_nil))))
      (pss_cons (ps_for PassesOwn.never rfl (VL.pi_dyn (pe_op VL.op_addU (pv 5) (pe_lst (pa_cons (pe_op op_sub (pe_un un_neg pe_int) (pv 6)) (pa_cons (pe_op VL.op_addU (pe_op VL.op_addU (pv 2) pe_int) (pv 6)) pa_nil))))) (pg_name (i := 4) sc__law_words.nd rfl (Or.inl rfl))
      (pss_cons (ps_set (i := 7) sc__law_words.nd rfl (Or.inl rfl) (pe_call G_surely_on (hr.mono (by decide)) (by rfl) T.g_surely_on T.F_surely_on.kp T.b_surely_on .nil pass0 (pa_cons (pv 1) (pa_cons (pv 2) (pa_cons (pv 4) pa_nil)))))
      (pss_one (ps_if (PW.pt (pw_or (pt_not (pt_val (pe_callB call_isi (by rfl) T.n_isinstance (by decide +kernel) (pa_cons (pv 7) (pa_cons (pe_bltn (v := .ty "str") (u := .type "str") (by rfl) T.n_str (by decide +kernel) rfl) pa_nil))))) (pw_or1 (pt_cmpR (op_neD (VL.hu64 hu)) (pv 7) (pe_call G__law_word (hr.mono (by decide)) (by rfl) T.g__law_word T.F__law_word.kp T.b__law_word .nil pass0 (pa_cons (pv 3) (pa_cons (pv 4) pa_nil))) (nomark _)))))
      (pss_one (ps_ret pe_bl))
      pss_nil))))
      (pss_one (ps_ret pe_bl)))))), ?_⟩)
  apply VL.wvI
  · intro B; walk_at "vi"
  · intro ts Qv Xv h
    obtain ⟨bx, b, ns, l, rows, rfl, hB, ok, l0, l6, R, k⟩ := h
    have rl := R.ln
    walk_at "V"
    refine lc_rngM (fun i => .int ((i : Int) - 1)) (fun i out hi hl => ?_) ?_
    · walk_at "V"
      exact NL.mk _ (by walk_at "le") (by rw [Int.zero_add])
    walk_at "V"
    by_cases h9 : 9 < l
    · rw [decide_eq_true h9]
      walk_at "V"
      refine ⟨_, _, rfl, hB, by omega, by omega, fun r b1 r0 r1 B1 => ?_⟩
      walk_at "V"
      refine ⟨_, _, rfl, B1, by decide, by decide, fun f b2 f0 f1 B2 => ?_⟩
      walk_at "V"
      try rw [show [VL.T.int (-1), VL.T.int l, VL.T.int r] ++ [VL.T.int (-2 - f), VL.T.int (l + 2 + f)] = ([-1, l, r, -2 - f, l + 2 + f] : List Int).map VL.T.int from rfl]
      refine for_mapF (β := Unit) (xs := [-1, l, r, -2 - f, l + 2 + f]) (f := VL.T.int) (fun γ _ => γ) (fun _ _ => True) (Nx.mk () (by walk_at "le") trivial) ?_ ?_
      · rintro i d ⟨⟩ hd _
        walk_at "V"
        refine ⟨b, ns, l, d, rows, rfl, ok, l0, l6, R, ?_⟩
        walk_at "V"
        try refine ⟨rows, d, rfl, by omega, ?_⟩
        walk_at "V"
        try rw [decide_eq_true rfl]
        walk_at "V"
        exact Nx.mk () (by walk_at "le") trivial
      · rintro ⟨⟩ _
        walk_at "V"
        exact k _ B2
    · rw [decide_eq_false h9]
      walk_at "V"
      refine ⟨_, _, rfl, hB, by decide, by decide, fun f b2 f0 f1 B2 => ?_⟩
      walk_at "V"
      rw [show (List.range (l + 3).toNat).map (fun (i : Nat) => VL.T.int ((i : Int) - 1)) ++ [VL.T.int (-2 - f), VL.T.int (l + 2 + f)] = ((List.range (l + 3).toNat).map (fun (i : Nat) => (i : Int) - 1) ++ [-2 - f, l + 2 + f]).map VL.T.int by rw [List.map_append, List.map_map]; rfl]
      refine for_mapF (β := Unit) (xs := (List.range (l + 3).toNat).map (fun (i : Nat) => (i : Int) - 1) ++ [-2 - f, l + 2 + f]) (f := VL.T.int) (fun γ _ => γ) (fun _ _ => True) (Nx.mk () (by walk_at "le") trivial) ?_ ?_
      · rintro i d ⟨⟩ hd _
        walk_at "V"
        refine ⟨b, ns, l, d, rows, rfl, ok, l0, l6, R, ?_⟩
        walk_at "V"
        try refine ⟨rows, d, rfl, by omega, ?_⟩
        walk_at "V"
        try rw [decide_eq_true rfl]
        walk_at "V"
        exact Nx.mk () (by walk_at "le") trivial
      · rintro ⟨⟩ _
        walk_at "V"
        exact k _ B2
theorem sc_law : FnScope ["_law_script", "_law_box", "_law_last", "_law_wide", "_law_notes_here", "_law_other", "_law_mine", "_law_others", "_law_first", "_law_second"] ["_law_script"] (defScope s_law) := ⟨rfl, rfl, rfl, by decide +kernel, rfl, by decide +kernel, by decide +kernel⟩
theorem okv_law (T : Txt K mg D) : FnOk P w K mg base CX0 13 D.a_law D.d_law ["_law_script"] (vsp K [false] spLawV) := by
  have G__law_pairs := ok__law_pairs (P := P) (w := w) (base := base) T
  have G_meeting_pairs := ok_meeting_pairs (P := P) (w := w) (base := base) T
  have G__law_words := ok__law_words (P := P) (w := w) (base := base) T
  have G__law_take := ok__law_take (P := P) (w := w) (base := base) T
  have G__law_fitting := ok__law_fitting (P := P) (w := w) (base := base) T
  have G__law_person := ok__law_person (P := P) (w := w) (base := base) T
  have G__law_draws := ok__law_draws (P := P) (w := w) (base := base) T
  refine VL.okV T.F_law sc_law rfl (by decide) (fun cdv A outer s H E hr => have hu := VL.huR hr; ⟨_, (pss_cons (ps_set (i := 1) sc_law.nd rfl (Or.inl rfl) (pe_call G__law_draws (hr.mono (by decide)) (by rfl) T.g__law_draws T.F__law_draws.kp T.b__law_draws .nil pass0 (pa_cons (pv 0) pa_nil)))
      (pss_cons (ps_set (i := 2) sc_law.nd rfl (Or.inl rfl) (pe_call G__law_take (hr.mono (by decide)) (by rfl) T.g__law_take T.F__law_take.kp T.b__law_take .nil pass0 (pa_cons (pv 1) (pa_cons pe_int pa_nil))))
      (pss_cons (ps_set (i := 3) sc_law.nd rfl (Or.inl rfl) (pe_cmpR (op_eqD (VL.hu64 hu)) (pe_call G__law_take (hr.mono (by decide)) (by rfl) T.g__law_take T.F__law_take.kp T.b__law_take .nil pass0 (pa_cons (pv 1) (pa_cons pe_int pa_nil))) pe_int (nomark _)))
      (Evl.pss_cut (ps_if (pt_val (pv 3))
      (pss_one (ps_set (i := 2) sc_law.nd rfl (Or.inl rfl) (pe_op VL.op_addU pe_int (pe_call G__law_take (hr.mono (by decide)) (by rfl) T.g__law_take T.F__law_take.kp T.b__law_take .nil pass0 (pa_cons (pv 1) (pa_cons pe_int pa_nil))))))
      pss_nil)
      (pss_cons (ps_set (i := 4) sc_law.nd rfl (Or.inl rfl) (pe_call G__law_person (hr.mono (by decide)) (by rfl) T.g__law_person T.F__law_person.kp T.b__law_person .nil pass0 (pa_cons (pv 1) (pa_cons (pv 2) (pa_cons (pv 3) pa_nil)))))
      (pss_cons (ps_set (i := 5) sc_law.nd rfl (Or.inl rfl) (pe_call G__law_person (hr.mono (by decide)) (by rfl) T.g__law_person T.F__law_person.kp T.b__law_person .nil pass0 (pa_cons (pv 1) (pa_cons (pv 2) (pa_cons (pv 3) pa_nil)))))
      (Evl.pss_cut (ps_if (pt_cmpR (op_eqD (VL.hu64 hu)) (pe_call G__law_take (hr.mono (by decide)) (by rfl) T.g__law_take T.F__law_take.kp T.b__law_take .nil pass0 (pa_cons (pv 1) (pa_cons pe_int pa_nil))) pe_int (nomark _))
      (pss_one (ps_set (i := 5) sc_law.nd rfl (Or.inl rfl) (pe_callTy VL.call_listU (by rfl) T.n_list (by decide +kernel) (pa_cons (pv 4) pa_nil))))
      pss_nil)
      (pss_cons (ps_set (i := 6) sc_law.nd rfl (Or.inl rfl) (pe_call G__law_fitting (hr.mono (by decide)) (by rfl) T.g__law_fitting T.F__law_fitting.kp T.b__law_fitting .nil pass0 (pa_cons (pv 4) (pa_cons (pv 2) pa_nil))))
      (pss_cons (ps_set (i := 7) sc_law.nd rfl (Or.inl rfl) (pe_call G__law_fitting (hr.mono (by decide)) (by rfl) T.g__law_fitting T.F__law_fitting.kp T.b__law_fitting .nil pass0 (pa_cons (pv 5) (pa_cons (pv 2) pa_nil))))
      (pss_cons (ps_set (i := 8) sc_law.nd rfl (Or.inl rfl) (pe_callTy VL.call_listU (by rfl) T.n_list (by decide +kernel) (pa_cons (pv 4) pa_nil)))
      (pss_cons (ps_set (i := 9) sc_law.nd rfl (Or.inl rfl) (pe_callTy VL.call_listU (by rfl) T.n_list (by decide +kernel) (pa_cons (pv 5) pa_nil)))
      (Evl.pss_cut (ps_if (pt_cmpR (op_eqD (VL.hu64 hu)) (pe_call G__law_take (hr.mono (by decide)) (by rfl) T.g__law_take T.F__law_take.kp T.b__law_take .nil pass0 (pa_cons (pv 1) (pa_cons pe_int pa_nil))) pe_int (nomark _))
      (pss_one (ps_set (i := 8) sc_law.nd rfl (Or.inl rfl) (pe_callTy VL.call_tupU (by rfl) T.n_tuple (by decide +kernel) (pa_cons (pv 4) pa_nil))))
      pss_nil)
      (pss_cons (ps_if (PW.pt (pw_or (pt_not (pt_val (pe_call G__law_words (hr.mono (by decide)) (by rfl) T.g__law_words T.F__law_words.kp T.b__law_words .nil pass0 (pa_cons (pv 1) (pa_cons (pv 8) (pa_cons (pv 2) (pa_cons (pv 6) pa_nil))))))) (pw_or1 (pt_not (pt_val (pe_call G__law_words (hr.mono (by decide)) (by rfl) T.g__law_words T.F__law_words.kp T.b__law_words .nil pass0 (pa_cons (pv 1) (pa_cons (pv 9) (pa_cons (pv 2) (pa_cons (pv 7) pa_nil))))))))))
      (pss_one (ps_ret pe_bl))
      pss_nil)
      (pss_cons (ps_if (pt_not (pt_val (pe_call G__law_pairs (hr.mono (by decide)) (by rfl) T.g__law_pairs T.F__law_pairs.kp T.b__law_pairs .nil pass0 (pa_cons (pe_call G_meeting_pairs (hr.mono (by decide)) (by rfl) T.g_meeting_pairs T.F_meeting_pairs.kp T.b_meeting_pairs .nil pass0 (pa_cons (pv 8) (pa_cons (pv 9) (pa_cons (pv 2) pa_nil)))) (pa_cons (pv 6) (pa_cons (pv 7) pa_nil))))))
      (pss_one (ps_ret pe_bl))
      pss_nil)
      (pss_cons (ps_if (pt_not (pt_val (pe_call G__law_pairs (hr.mono (by decide)) (by rfl) T.g__law_pairs T.F__law_pairs.kp T.b__law_pairs .nil pass0 (pa_cons (VL.pe_callK0 G_meeting_pairs (hr.mono (by decide)) (by rfl) T.g_meeting_pairs T.F_meeting_pairs.kp (T_kb_meeting_pairs_0_last_notes_other T) pass0 (pk_cons (pv 2) (pk_cons (pv 9) (pk_cons (pv 8) pk_nil)))) (pa_cons (pv 7) (pa_cons (pv 6) pa_nil))))))
      (pss_one (ps_ret pe_bl))
      pss_nil)
      (pss_cons (ps_if (PW.pt (pw_and (pt_not (pt_val (pv 3))) (pw_and1 (pt_not (pt_val (pe_call G__law_pairs (hr.mono (by decide)) (by rfl) T.g__law_pairs T.F__law_pairs.kp T.b__law_pairs .nil pass0 (pa_cons (pe_call G_meeting_pairs (hr.mono (by decide)) (by rfl) T.g_meeting_pairs T.F_meeting_pairs.kp T.b_meeting_pairs .nil pass0 (pa_cons (pv 8) (pa_cons (pv 8) (pa_cons (pv 2) pa_nil)))) (pa_cons (pv 6) (pa_cons (pv 6) pa_nil)))))))))
      (pss_one (ps_ret pe_bl))
      pss_nil)
      (pss_one (ps_ret (pe_and (pe_cmpR (op_eqD (VL.hu64 hu)) (pe_callTy VL.call_listU (by rfl) T.n_list (by decide +kernel) (pa_cons (pv 8) pa_nil)) (pv 4) (nomark _)) (pe_one (pe_cmpR (op_eqD (VL.hu64 hu)) (pv 9) (pv 5) (nomark _)))))))))))))))))))))), ?_⟩)
  apply VL.wvI
  · intro B; walk_at "vi"
  · intro ts Qv Xv h
    obtain ⟨ns, rfl, hl, k⟩ := h
    walk_at "V"
    intro b0 B0
    walk_at "V"
    refine ⟨_, _, rfl, B0, by decide, by decide, fun l b1 l0 l1 B1 => ?_⟩
    walk_at "V"
    refine ⟨_, _, rfl, B1, by decide, by decide, fun wd b2 w0 w1 B2 => ?_⟩
    walk_at "V"
    rw [show nb false (decide (wd = 1)) = decide (wd = 1) from rfl]
    generalize decide (wd = 1) = wide
    refine cut_st (β := VL.T × Int) (fun s => ⟨0, [qT (.scr (ns.map VL.T.int)), qR 0, qI s.2, qT (.bl wide), none, none, none, none, none, none], [.mu s.1]⟩) (fun s => Bx s.1 ∧ 0 ≤ s.2 ∧ s.2 ≤ 60) ?_ ?_
    · walk_at "V"
      cases wide
      · walk_at "V"
        exact Nx.mk (_, l) (by walk_at "le") ⟨B2, l0, by show l ≤ 60; omega⟩
      · walk_at "V"
        refine ⟨_, _, rfl, B2, by decide, by decide, fun m b3 m0 m1 B3 => ?_⟩
        walk_at "V"
        exact Nx.mk (_, 10 + m) (by walk_at "le") ⟨B3, by show 0 ≤ 10 + m; omega, by show 10 + m ≤ 60; omega⟩
    rintro ⟨b3, l2⟩ ⟨B3, q0, q1⟩
    clear B2 B1 B0
    walk_at "d"
    have q0 : 0 ≤ l2 := q0
    have q1 : l2 ≤ 60 := q1
    walk_at "V"
    refine ⟨_, _, wide, rfl, B3, q0, q1, fun n1 b4 o1 B4 => ?_⟩
    walk_at "V"
    refine ⟨_, _, wide, rfl, B4, q0, q1, fun n2 b5 o2 B5 => ?_⟩
    walk_at "V"
    refine cut_st (β := VL.T × List (Int × Bool)) (fun s => ⟨0, [qT (.scr (ns.map VL.T.int)), qR 0, qI l2, qT (.bl wide), qT (.lst (n1.map tN)), qT (.lst (s.2.map tN)), none, none, none, none], [.mu s.1, .fz (.lst (n1.map tN)), .fz (.lst (n2.map tN))]⟩) (fun s => Bx s.1 ∧ NOk l2 s.2) ?_ ?_
    · walk_at "V"
      refine ⟨_, _, rfl, B5, by decide, by decide, fun c b6 c0 c1 B6 => ?_⟩
      walk_at "V"
      by_cases h : c = 1
      · rw [decide_eq_true h]
        walk_at "V"
        exact Nx.mk (_, n1) (by walk_at "le") ⟨B6, o1⟩
      · rw [decide_eq_false h]
        walk_at "V"
        exact Nx.mk (_, n2) (by walk_at "le") ⟨B6, o2⟩
    rintro ⟨b6, n3⟩ ⟨B6, o3⟩
    clear B5 B4 B3
    walk_at "d"
    have o3 : NOk l2 n3 := o3
    walk_at "V"
    refine ⟨n1, l2, rfl, o1, q0, q1, fun r1 R1 => ?_⟩
    walk_at "V"
    refine ⟨n3, l2, rfl, o3, q0, q1, fun r2 R2 => ?_⟩
    walk_at "V"
    refine cut_st (β := VL.T × Bool) (fun s => ⟨0, [qT (.scr (ns.map VL.T.int)), qR 0, qI l2, qT (.bl wide), qT (.lst (n1.map tN)), qT (.lst (n3.map tN)), qT (.lst (r1.map tR2)), qT (.lst (r2.map tR2)), qT (tSqN s.2 (n1.map tN)), qT (.lst (n3.map tN))], [.mu s.1, .fz (.lst (n1.map tN)), .fz (.lst (n2.map tN)), .fz (.lst (r1.map tR2)), .fz (.lst (r2.map tR2)), .fz (.lst (n1.map tN)), .fz (.lst (n3.map tN))]⟩) (fun s => Bx s.1) ?_ ?_
    · walk_at "V"
      refine ⟨_, _, rfl, B6, by decide, by decide, fun c b7 c0 c1 B7 => ?_⟩
      walk_at "V"
      by_cases h : c = 1
      · rw [decide_eq_true h]
        walk_at "V"
        exact Nx.mk (_, false) (by walk_at "le") B7
      · rw [decide_eq_false h]
        walk_at "V"
        exact Nx.mk (_, true) (by walk_at "le") B7
    rintro ⟨b7, z⟩ B7
    clear B6
    walk_at "d"
    have B7 : Bx b7 := B7
    have ok1 : okD (.lst (n1.map tN)) = true := encN.list.ok (by decide) n1
    have ok3 : okD (.lst (n3.map tN)) = true := encN.list.ok (by decide) n3
    walk_at "V"
    refine ⟨_, z, n1, l2, r1, rfl, B7, o1, q0, q1, R1, fun b8 B8 => ?_⟩
    walk_at "V"
    refine ⟨_, true, n3, l2, r2, rfl, B8, o3, q0, q1, R2, fun b9 B9 => ?_⟩
    walk_at "V"
    refine ⟨z, true, n1, n3, l2, r1, r2, rfl, o1, o3, q0, q1, R1, R2, ?_⟩
    walk_at "V"
    refine ⟨n1, n3, l2, r1, r2, rfl, R1, R2, ?_⟩
    walk_at "V"
    refine ⟨true, z, n3, n1, l2, r2, r1, rfl, o3, o1, q0, q1, R2, R1, ?_⟩
    walk_at "V"
    refine ⟨n3, n1, l2, r2, r1, rfl, R2, R1, ?_⟩
    walk_at "V"
    cases wide
    · walk_at "V"
      refine ⟨z, z, n1, n1, l2, r1, r1, rfl, o1, o1, q0, q1, R1, R1, ?_⟩
      walk_at "V"
      refine ⟨n1, n1, l2, r1, r1, rfl, R1, R1, ?_⟩
      walk_at "V"
      cases z
      · walk_at "V"
        rw [encN.selfL]
        walk_at "V"
        rw [encN.selfL]
        exact k
      · walk_at "V"
        rw [encN.selfL]
        walk_at "V"
        rw [encN.selfL]
        exact k
    · walk_at "V"
      cases z
      · walk_at "V"
        rw [encN.selfL]
        walk_at "V"
        rw [encN.selfL]
        exact k
      · walk_at "V"
        rw [encN.selfL]
        walk_at "V"
        rw [encN.selfL]
        exact k
theorem ok_law (T : Txt K mg D) : FnOk P w K mg base CX0 13 D.a_law D.d_law ["_law_script"] (spLaw K) := VL.okLaw (okv_law T)
end
end Toy
set_option Elab.async false
set_option linter.all false
set_option maxRecDepth 100000
set_option maxHeartbeats 4000000
set_option synthInstance.maxSize 1000000
set_option synthInstance.maxHeartbeats 4000000
namespace Toy
open PySem L2 XR VL
section
theorem all_mk {l : PySem.W.OpenLaw} {w : World} {K : PySem.W.Frag} {h : Heap} {mg : Str → Option Value} {fa : Addr} (X : K.In h) (G : h.Ns mainGlobals mg) (hfa : mg "law" = some (.ref fa))
    {x_OutOfRange_init x_EmptyStay_init x_Stay_init x_Stay___contains__ x_Stay_meets x_Stay_around x__check_days x__noted x__days x_least_stays x_greatest_stays x_surely_on x__first_pair x_meeting_pairs x__law_draws x__law_take x__law_number x__law_is x__law_true_notes x__law_empty_days x__law_notes x__law_fences x__law_fitting x__law_least x__law_greatest x__law_person x__law_word x__law_words x__law_common x__law_first_pair x__law_item x__law_pairs x_law x_ArchiveError x_OutOfRange x_EmptyStay x_NoCommonDay x_NoDays x_Stay q_Stay_around : Addr}
    {od_OutOfRange_init an_OutOfRange_init : Option Addr} {sl_OutOfRange_init : Array (Option Value)} {oc_OutOfRange_init kV_OutOfRange_init dc_OutOfRange_init pm_OutOfRange_init cd_OutOfRange_init ct_OutOfRange_init : Value}
    {od_EmptyStay_init an_EmptyStay_init : Option Addr} {sl_EmptyStay_init : Array (Option Value)} {oc_EmptyStay_init kV_EmptyStay_init dc_EmptyStay_init pm_EmptyStay_init cd_EmptyStay_init ct_EmptyStay_init : Value}
    {od_Stay_init an_Stay_init : Option Addr} {sl_Stay_init : Array (Option Value)} {oc_Stay_init kV_Stay_init dc_Stay_init pm_Stay_init cd_Stay_init ct_Stay_init : Value}
    {od_Stay___contains__ an_Stay___contains__ : Option Addr} {sl_Stay___contains__ : Array (Option Value)} {oc_Stay___contains__ kV_Stay___contains__ dc_Stay___contains__ pm_Stay___contains__ cd_Stay___contains__ ct_Stay___contains__ : Value}
    {od_Stay_meets an_Stay_meets : Option Addr} {sl_Stay_meets : Array (Option Value)} {oc_Stay_meets kV_Stay_meets dc_Stay_meets pm_Stay_meets cd_Stay_meets ct_Stay_meets : Value}
    {od_Stay_around an_Stay_around : Option Addr} {sl_Stay_around : Array (Option Value)} {oc_Stay_around kV_Stay_around dc_Stay_around pm_Stay_around cd_Stay_around ct_Stay_around : Value}
    {rest_Stay_around : List Value}
    {od__check_days an__check_days : Option Addr} {sl__check_days : Array (Option Value)} {oc__check_days kV__check_days dc__check_days pm__check_days cd__check_days ct__check_days : Value}
    {od__noted an__noted : Option Addr} {sl__noted : Array (Option Value)} {oc__noted kV__noted dc__noted pm__noted cd__noted ct__noted : Value}
    {od__days an__days : Option Addr} {sl__days : Array (Option Value)} {oc__days kV__days dc__days pm__days cd__days ct__days : Value}
    {od_least_stays an_least_stays : Option Addr} {sl_least_stays : Array (Option Value)} {oc_least_stays kV_least_stays dc_least_stays pm_least_stays cd_least_stays ct_least_stays : Value}
    {od_greatest_stays an_greatest_stays : Option Addr} {sl_greatest_stays : Array (Option Value)} {oc_greatest_stays kV_greatest_stays dc_greatest_stays pm_greatest_stays cd_greatest_stays ct_greatest_stays : Value}
    {od_surely_on an_surely_on : Option Addr} {sl_surely_on : Array (Option Value)} {oc_surely_on kV_surely_on dc_surely_on pm_surely_on cd_surely_on ct_surely_on : Value}
    {od__first_pair an__first_pair : Option Addr} {sl__first_pair : Array (Option Value)} {oc__first_pair kV__first_pair dc__first_pair pm__first_pair cd__first_pair ct__first_pair : Value}
    {od_meeting_pairs an_meeting_pairs : Option Addr} {sl_meeting_pairs : Array (Option Value)} {oc_meeting_pairs kV_meeting_pairs dc_meeting_pairs pm_meeting_pairs cd_meeting_pairs ct_meeting_pairs : Value}
    {od__law_draws an__law_draws : Option Addr} {sl__law_draws : Array (Option Value)} {oc__law_draws kV__law_draws dc__law_draws pm__law_draws cd__law_draws ct__law_draws : Value}
    {od__law_take an__law_take : Option Addr} {sl__law_take : Array (Option Value)} {oc__law_take kV__law_take dc__law_take pm__law_take cd__law_take ct__law_take : Value}
    {od__law_number an__law_number : Option Addr} {sl__law_number : Array (Option Value)} {oc__law_number kV__law_number dc__law_number pm__law_number cd__law_number ct__law_number : Value}
    {od__law_is an__law_is : Option Addr} {sl__law_is : Array (Option Value)} {oc__law_is kV__law_is dc__law_is pm__law_is cd__law_is ct__law_is : Value}
    {od__law_true_notes an__law_true_notes : Option Addr} {sl__law_true_notes : Array (Option Value)} {oc__law_true_notes kV__law_true_notes dc__law_true_notes pm__law_true_notes cd__law_true_notes ct__law_true_notes : Value}
    {od__law_empty_days an__law_empty_days : Option Addr} {sl__law_empty_days : Array (Option Value)} {oc__law_empty_days kV__law_empty_days dc__law_empty_days pm__law_empty_days cd__law_empty_days ct__law_empty_days : Value}
    {od__law_notes an__law_notes : Option Addr} {sl__law_notes : Array (Option Value)} {oc__law_notes kV__law_notes dc__law_notes pm__law_notes cd__law_notes ct__law_notes : Value}
    {od__law_fences an__law_fences : Option Addr} {sl__law_fences : Array (Option Value)} {oc__law_fences kV__law_fences dc__law_fences pm__law_fences cd__law_fences ct__law_fences : Value}
    {od__law_fitting an__law_fitting : Option Addr} {sl__law_fitting : Array (Option Value)} {oc__law_fitting kV__law_fitting dc__law_fitting pm__law_fitting cd__law_fitting ct__law_fitting : Value}
    {od__law_least an__law_least : Option Addr} {sl__law_least : Array (Option Value)} {oc__law_least kV__law_least dc__law_least pm__law_least cd__law_least ct__law_least : Value}
    {od__law_greatest an__law_greatest : Option Addr} {sl__law_greatest : Array (Option Value)} {oc__law_greatest kV__law_greatest dc__law_greatest pm__law_greatest cd__law_greatest ct__law_greatest : Value}
    {od__law_person an__law_person : Option Addr} {sl__law_person : Array (Option Value)} {oc__law_person kV__law_person dc__law_person pm__law_person cd__law_person ct__law_person : Value}
    {od__law_word an__law_word : Option Addr} {sl__law_word : Array (Option Value)} {oc__law_word kV__law_word dc__law_word pm__law_word cd__law_word ct__law_word : Value}
    {od__law_words an__law_words : Option Addr} {sl__law_words : Array (Option Value)} {oc__law_words kV__law_words dc__law_words pm__law_words cd__law_words ct__law_words : Value}
    {od__law_common an__law_common : Option Addr} {sl__law_common : Array (Option Value)} {oc__law_common kV__law_common dc__law_common pm__law_common cd__law_common ct__law_common : Value}
    {od__law_first_pair an__law_first_pair : Option Addr} {sl__law_first_pair : Array (Option Value)} {oc__law_first_pair kV__law_first_pair dc__law_first_pair pm__law_first_pair cd__law_first_pair ct__law_first_pair : Value}
    {od__law_item an__law_item : Option Addr} {sl__law_item : Array (Option Value)} {oc__law_item kV__law_item dc__law_item pm__law_item cd__law_item ct__law_item : Value}
    {od__law_pairs an__law_pairs : Option Addr} {sl__law_pairs : Array (Option Value)} {oc__law_pairs kV__law_pairs dc__law_pairs pm__law_pairs cd__law_pairs ct__law_pairs : Value}
    {od_law an_law : Option Addr} {sl_law : Array (Option Value)} {oc_law kV_law dc_law pm_law cd_law ct_law : Value}
    {nm_EmptyStay q_EmptyStay : Str} {N_EmptyStay : Addr} {bs_EmptyStay bm_EmptyStay : List Value} {sn_EmptyStay : List Str} {sub_EmptyStay : List Value} {ab_EmptyStay : Bool} {col_EmptyStay : Option Bool} {dd_EmptyStay : Option Addr} {m0_EmptyStay m1_EmptyStay m2_EmptyStay m3_EmptyStay m5_EmptyStay : Option Value}
    {nm_OutOfRange q_OutOfRange : Str} {N_OutOfRange : Addr} {bs_OutOfRange bm_OutOfRange : List Value} {sn_OutOfRange : List Str} {sub_OutOfRange : List Value} {ab_OutOfRange : Bool} {col_OutOfRange : Option Bool} {dd_OutOfRange : Option Addr} {m0_OutOfRange m1_OutOfRange m2_OutOfRange m3_OutOfRange m5_OutOfRange : Option Value}
    (hC_ArchiveError : PySem.W.nsIn K mainGlobals "ArchiveError" = some (some (.ref x_ArchiveError)))
    (hK_ArchiveError : PySem.W.keepIn K (.ref x_ArchiveError) = true)
    (hC_OutOfRange : PySem.W.nsIn K mainGlobals "OutOfRange" = some (some (.ref x_OutOfRange)))
    (hK_OutOfRange : PySem.W.keepIn K (.ref x_OutOfRange) = true)
    (hC_EmptyStay : PySem.W.nsIn K mainGlobals "EmptyStay" = some (some (.ref x_EmptyStay)))
    (hK_EmptyStay : PySem.W.keepIn K (.ref x_EmptyStay) = true)
    (hC_NoCommonDay : PySem.W.nsIn K mainGlobals "NoCommonDay" = some (some (.ref x_NoCommonDay)))
    (hK_NoCommonDay : PySem.W.keepIn K (.ref x_NoCommonDay) = true)
    (hC_NoDays : PySem.W.nsIn K mainGlobals "NoDays" = some (some (.ref x_NoDays)))
    (hK_NoDays : PySem.W.keepIn K (.ref x_NoDays) = true)
    (hC_Stay : PySem.W.nsIn K mainGlobals "Stay" = some (some (.ref x_Stay)))
    (hK_Stay : PySem.W.keepIn K (.ref x_Stay) = true)
    (ha_OutOfRange_init : PySem.W.findIn K (.ref x_OutOfRange) "__init__" = some (some (.ref x_OutOfRange_init)))
    (hi_OutOfRange_init : PySem.W.isFn K (.ref x_OutOfRange_init) = true)
    (hl_OutOfRange_init : K.lookup x_OutOfRange_init = some ⟨oc_OutOfRange_init, od_OutOfRange_init, .func (PySem.W.fnOf "__init__" "OutOfRange.__init__" (defArgs s_OutOfRange_init) (defBody s_OutOfRange_init) (defScope s_OutOfRange_init) .none kV_OutOfRange_init dc_OutOfRange_init pm_OutOfRange_init an_OutOfRange_init cd_OutOfRange_init ct_OutOfRange_init), sl_OutOfRange_init⟩)
    (hc_OutOfRange_init : PySem.W.codeIn K cd_OutOfRange_init "OutOfRange.__init__" = true)
    (hk_OutOfRange_init : PySem.W.keepIn K (.ref x_OutOfRange_init) = true)
    (ha_EmptyStay_init : PySem.W.findIn K (.ref x_EmptyStay) "__init__" = some (some (.ref x_EmptyStay_init)))
    (hi_EmptyStay_init : PySem.W.isFn K (.ref x_EmptyStay_init) = true)
    (hl_EmptyStay_init : K.lookup x_EmptyStay_init = some ⟨oc_EmptyStay_init, od_EmptyStay_init, .func (PySem.W.fnOf "__init__" "EmptyStay.__init__" (defArgs s_EmptyStay_init) (defBody s_EmptyStay_init) (defScope s_EmptyStay_init) .none kV_EmptyStay_init dc_EmptyStay_init pm_EmptyStay_init an_EmptyStay_init cd_EmptyStay_init ct_EmptyStay_init), sl_EmptyStay_init⟩)
    (hc_EmptyStay_init : PySem.W.codeIn K cd_EmptyStay_init "EmptyStay.__init__" = true)
    (hk_EmptyStay_init : PySem.W.keepIn K (.ref x_EmptyStay_init) = true)
    (ha_Stay_init : PySem.W.findIn K (.ref x_Stay) "__init__" = some (some (.ref x_Stay_init)))
    (hi_Stay_init : PySem.W.isFn K (.ref x_Stay_init) = true)
    (hl_Stay_init : K.lookup x_Stay_init = some ⟨oc_Stay_init, od_Stay_init, .func (PySem.W.fnOf "__init__" "Stay.__init__" (defArgs s_Stay_init) (defBody s_Stay_init) (defScope s_Stay_init) .none kV_Stay_init dc_Stay_init pm_Stay_init an_Stay_init cd_Stay_init ct_Stay_init), sl_Stay_init⟩)
    (hc_Stay_init : PySem.W.codeIn K cd_Stay_init "Stay.__init__" = true)
    (hk_Stay_init : PySem.W.keepIn K (.ref x_Stay_init) = true)
    (ha_Stay___contains__ : PySem.W.findIn K (.ref x_Stay) "__contains__" = some (some (.ref x_Stay___contains__)))
    (hi_Stay___contains__ : PySem.W.isFn K (.ref x_Stay___contains__) = true)
    (hl_Stay___contains__ : K.lookup x_Stay___contains__ = some ⟨oc_Stay___contains__, od_Stay___contains__, .func (PySem.W.fnOf "__contains__" "Stay.__contains__" (defArgs s_Stay___contains__) (defBody s_Stay___contains__) (defScope s_Stay___contains__) .none kV_Stay___contains__ dc_Stay___contains__ pm_Stay___contains__ an_Stay___contains__ cd_Stay___contains__ ct_Stay___contains__), sl_Stay___contains__⟩)
    (hc_Stay___contains__ : PySem.W.codeIn K cd_Stay___contains__ "Stay.__contains__" = true)
    (hk_Stay___contains__ : PySem.W.keepIn K (.ref x_Stay___contains__) = true)
    (ha_Stay_meets : PySem.W.findIn K (.ref x_Stay) "meets" = some (some (.ref x_Stay_meets)))
    (hi_Stay_meets : PySem.W.isFn K (.ref x_Stay_meets) = true)
    (hl_Stay_meets : K.lookup x_Stay_meets = some ⟨oc_Stay_meets, od_Stay_meets, .func (PySem.W.fnOf "meets" "Stay.meets" (defArgs s_Stay_meets) (defBody s_Stay_meets) (defScope s_Stay_meets) .none kV_Stay_meets dc_Stay_meets pm_Stay_meets an_Stay_meets cd_Stay_meets ct_Stay_meets), sl_Stay_meets⟩)
    (hc_Stay_meets : PySem.W.codeIn K cd_Stay_meets "Stay.meets" = true)
    (hk_Stay_meets : PySem.W.keepIn K (.ref x_Stay_meets) = true)
    (ha_Stay_around : PySem.W.findCls K (.ref x_Stay) (.type "type") "around" = some (.get (.builtin "staticmethod.__get__") (.ref q_Stay_around) .none (.ref x_Stay)))
    (hr_Stay_around : PySem.W.recIn K q_Stay_around "staticmethod" = some (.ref x_Stay_around :: rest_Stay_around))
    (hl_Stay_around : K.lookup x_Stay_around = some ⟨oc_Stay_around, od_Stay_around, .func (PySem.W.fnOf "around" "Stay.around" (defArgs s_Stay_around) (defBody s_Stay_around) (defScope s_Stay_around) .none kV_Stay_around dc_Stay_around pm_Stay_around an_Stay_around cd_Stay_around ct_Stay_around), sl_Stay_around⟩)
    (hc_Stay_around : PySem.W.codeIn K cd_Stay_around "Stay.around" = true)
    (hk_Stay_around : PySem.W.keepIn K (.ref x_Stay_around) = true)
    (ha__check_days : PySem.W.nsIn K mainGlobals "_check_days" = some (some (.ref x__check_days)))
    (hl__check_days : K.lookup x__check_days = some ⟨oc__check_days, od__check_days, .func (PySem.W.fnOf "_check_days" "_check_days" (defArgs s__check_days) (defBody s__check_days) (defScope s__check_days) .none kV__check_days dc__check_days pm__check_days an__check_days cd__check_days ct__check_days), sl__check_days⟩)
    (hc__check_days : PySem.W.codeIn K cd__check_days "_check_days" = true)
    (hk__check_days : PySem.W.keepIn K (.ref x__check_days) = true)
    (ha__noted : PySem.W.nsIn K mainGlobals "_noted" = some (some (.ref x__noted)))
    (hl__noted : K.lookup x__noted = some ⟨oc__noted, od__noted, .func (PySem.W.fnOf "_noted" "_noted" (defArgs s__noted) (defBody s__noted) (defScope s__noted) .none kV__noted dc__noted pm__noted an__noted cd__noted ct__noted), sl__noted⟩)
    (hc__noted : PySem.W.codeIn K cd__noted "_noted" = true)
    (hk__noted : PySem.W.keepIn K (.ref x__noted) = true)
    (ha__days : PySem.W.nsIn K mainGlobals "_days" = some (some (.ref x__days)))
    (hl__days : K.lookup x__days = some ⟨oc__days, od__days, .func (PySem.W.fnOf "_days" "_days" (defArgs s__days) (defBody s__days) (defScope s__days) .none kV__days dc__days pm__days an__days cd__days ct__days), sl__days⟩)
    (hc__days : PySem.W.codeIn K cd__days "_days" = true)
    (hk__days : PySem.W.keepIn K (.ref x__days) = true)
    (ha_least_stays : PySem.W.nsIn K mainGlobals "least_stays" = some (some (.ref x_least_stays)))
    (hl_least_stays : K.lookup x_least_stays = some ⟨oc_least_stays, od_least_stays, .func (PySem.W.fnOf "least_stays" "least_stays" (defArgs s_least_stays) (defBody s_least_stays) (defScope s_least_stays) .none kV_least_stays dc_least_stays pm_least_stays an_least_stays cd_least_stays ct_least_stays), sl_least_stays⟩)
    (hc_least_stays : PySem.W.codeIn K cd_least_stays "least_stays" = true)
    (hk_least_stays : PySem.W.keepIn K (.ref x_least_stays) = true)
    (ha_greatest_stays : PySem.W.nsIn K mainGlobals "greatest_stays" = some (some (.ref x_greatest_stays)))
    (hl_greatest_stays : K.lookup x_greatest_stays = some ⟨oc_greatest_stays, od_greatest_stays, .func (PySem.W.fnOf "greatest_stays" "greatest_stays" (defArgs s_greatest_stays) (defBody s_greatest_stays) (defScope s_greatest_stays) .none kV_greatest_stays dc_greatest_stays pm_greatest_stays an_greatest_stays cd_greatest_stays ct_greatest_stays), sl_greatest_stays⟩)
    (hc_greatest_stays : PySem.W.codeIn K cd_greatest_stays "greatest_stays" = true)
    (hk_greatest_stays : PySem.W.keepIn K (.ref x_greatest_stays) = true)
    (ha_surely_on : PySem.W.nsIn K mainGlobals "surely_on" = some (some (.ref x_surely_on)))
    (hl_surely_on : K.lookup x_surely_on = some ⟨oc_surely_on, od_surely_on, .func (PySem.W.fnOf "surely_on" "surely_on" (defArgs s_surely_on) (defBody s_surely_on) (defScope s_surely_on) .none kV_surely_on dc_surely_on pm_surely_on an_surely_on cd_surely_on ct_surely_on), sl_surely_on⟩)
    (hc_surely_on : PySem.W.codeIn K cd_surely_on "surely_on" = true)
    (hk_surely_on : PySem.W.keepIn K (.ref x_surely_on) = true)
    (ha__first_pair : PySem.W.nsIn K mainGlobals "_first_pair" = some (some (.ref x__first_pair)))
    (hl__first_pair : K.lookup x__first_pair = some ⟨oc__first_pair, od__first_pair, .func (PySem.W.fnOf "_first_pair" "_first_pair" (defArgs s__first_pair) (defBody s__first_pair) (defScope s__first_pair) .none kV__first_pair dc__first_pair pm__first_pair an__first_pair cd__first_pair ct__first_pair), sl__first_pair⟩)
    (hc__first_pair : PySem.W.codeIn K cd__first_pair "_first_pair" = true)
    (hk__first_pair : PySem.W.keepIn K (.ref x__first_pair) = true)
    (ha_meeting_pairs : PySem.W.nsIn K mainGlobals "meeting_pairs" = some (some (.ref x_meeting_pairs)))
    (hl_meeting_pairs : K.lookup x_meeting_pairs = some ⟨oc_meeting_pairs, od_meeting_pairs, .func (PySem.W.fnOf "meeting_pairs" "meeting_pairs" (defArgs s_meeting_pairs) (defBody s_meeting_pairs) (defScope s_meeting_pairs) .none kV_meeting_pairs dc_meeting_pairs pm_meeting_pairs an_meeting_pairs cd_meeting_pairs ct_meeting_pairs), sl_meeting_pairs⟩)
    (hc_meeting_pairs : PySem.W.codeIn K cd_meeting_pairs "meeting_pairs" = true)
    (hk_meeting_pairs : PySem.W.keepIn K (.ref x_meeting_pairs) = true)
    (ha__law_draws : PySem.W.nsIn K mainGlobals "_law_draws" = some (some (.ref x__law_draws)))
    (hl__law_draws : K.lookup x__law_draws = some ⟨oc__law_draws, od__law_draws, .func (PySem.W.fnOf "_law_draws" "_law_draws" (defArgs s__law_draws) (defBody s__law_draws) (defScope s__law_draws) .none kV__law_draws dc__law_draws pm__law_draws an__law_draws cd__law_draws ct__law_draws), sl__law_draws⟩)
    (hc__law_draws : PySem.W.codeIn K cd__law_draws "_law_draws" = true)
    (hk__law_draws : PySem.W.keepIn K (.ref x__law_draws) = true)
    (ha__law_take : PySem.W.nsIn K mainGlobals "_law_take" = some (some (.ref x__law_take)))
    (hl__law_take : K.lookup x__law_take = some ⟨oc__law_take, od__law_take, .func (PySem.W.fnOf "_law_take" "_law_take" (defArgs s__law_take) (defBody s__law_take) (defScope s__law_take) .none kV__law_take dc__law_take pm__law_take an__law_take cd__law_take ct__law_take), sl__law_take⟩)
    (hc__law_take : PySem.W.codeIn K cd__law_take "_law_take" = true)
    (hk__law_take : PySem.W.keepIn K (.ref x__law_take) = true)
    (ha__law_number : PySem.W.nsIn K mainGlobals "_law_number" = some (some (.ref x__law_number)))
    (hl__law_number : K.lookup x__law_number = some ⟨oc__law_number, od__law_number, .func (PySem.W.fnOf "_law_number" "_law_number" (defArgs s__law_number) (defBody s__law_number) (defScope s__law_number) .none kV__law_number dc__law_number pm__law_number an__law_number cd__law_number ct__law_number), sl__law_number⟩)
    (hc__law_number : PySem.W.codeIn K cd__law_number "_law_number" = true)
    (hk__law_number : PySem.W.keepIn K (.ref x__law_number) = true)
    (ha__law_is : PySem.W.nsIn K mainGlobals "_law_is" = some (some (.ref x__law_is)))
    (hl__law_is : K.lookup x__law_is = some ⟨oc__law_is, od__law_is, .func (PySem.W.fnOf "_law_is" "_law_is" (defArgs s__law_is) (defBody s__law_is) (defScope s__law_is) .none kV__law_is dc__law_is pm__law_is an__law_is cd__law_is ct__law_is), sl__law_is⟩)
    (hc__law_is : PySem.W.codeIn K cd__law_is "_law_is" = true)
    (hk__law_is : PySem.W.keepIn K (.ref x__law_is) = true)
    (ha__law_true_notes : PySem.W.nsIn K mainGlobals "_law_true_notes" = some (some (.ref x__law_true_notes)))
    (hl__law_true_notes : K.lookup x__law_true_notes = some ⟨oc__law_true_notes, od__law_true_notes, .func (PySem.W.fnOf "_law_true_notes" "_law_true_notes" (defArgs s__law_true_notes) (defBody s__law_true_notes) (defScope s__law_true_notes) .none kV__law_true_notes dc__law_true_notes pm__law_true_notes an__law_true_notes cd__law_true_notes ct__law_true_notes), sl__law_true_notes⟩)
    (hc__law_true_notes : PySem.W.codeIn K cd__law_true_notes "_law_true_notes" = true)
    (hk__law_true_notes : PySem.W.keepIn K (.ref x__law_true_notes) = true)
    (ha__law_empty_days : PySem.W.nsIn K mainGlobals "_law_empty_days" = some (some (.ref x__law_empty_days)))
    (hl__law_empty_days : K.lookup x__law_empty_days = some ⟨oc__law_empty_days, od__law_empty_days, .func (PySem.W.fnOf "_law_empty_days" "_law_empty_days" (defArgs s__law_empty_days) (defBody s__law_empty_days) (defScope s__law_empty_days) .none kV__law_empty_days dc__law_empty_days pm__law_empty_days an__law_empty_days cd__law_empty_days ct__law_empty_days), sl__law_empty_days⟩)
    (hc__law_empty_days : PySem.W.codeIn K cd__law_empty_days "_law_empty_days" = true)
    (hk__law_empty_days : PySem.W.keepIn K (.ref x__law_empty_days) = true)
    (ha__law_notes : PySem.W.nsIn K mainGlobals "_law_notes" = some (some (.ref x__law_notes)))
    (hl__law_notes : K.lookup x__law_notes = some ⟨oc__law_notes, od__law_notes, .func (PySem.W.fnOf "_law_notes" "_law_notes" (defArgs s__law_notes) (defBody s__law_notes) (defScope s__law_notes) .none kV__law_notes dc__law_notes pm__law_notes an__law_notes cd__law_notes ct__law_notes), sl__law_notes⟩)
    (hc__law_notes : PySem.W.codeIn K cd__law_notes "_law_notes" = true)
    (hk__law_notes : PySem.W.keepIn K (.ref x__law_notes) = true)
    (ha__law_fences : PySem.W.nsIn K mainGlobals "_law_fences" = some (some (.ref x__law_fences)))
    (hl__law_fences : K.lookup x__law_fences = some ⟨oc__law_fences, od__law_fences, .func (PySem.W.fnOf "_law_fences" "_law_fences" (defArgs s__law_fences) (defBody s__law_fences) (defScope s__law_fences) .none kV__law_fences dc__law_fences pm__law_fences an__law_fences cd__law_fences ct__law_fences), sl__law_fences⟩)
    (hc__law_fences : PySem.W.codeIn K cd__law_fences "_law_fences" = true)
    (hk__law_fences : PySem.W.keepIn K (.ref x__law_fences) = true)
    (ha__law_fitting : PySem.W.nsIn K mainGlobals "_law_fitting" = some (some (.ref x__law_fitting)))
    (hl__law_fitting : K.lookup x__law_fitting = some ⟨oc__law_fitting, od__law_fitting, .func (PySem.W.fnOf "_law_fitting" "_law_fitting" (defArgs s__law_fitting) (defBody s__law_fitting) (defScope s__law_fitting) .none kV__law_fitting dc__law_fitting pm__law_fitting an__law_fitting cd__law_fitting ct__law_fitting), sl__law_fitting⟩)
    (hc__law_fitting : PySem.W.codeIn K cd__law_fitting "_law_fitting" = true)
    (hk__law_fitting : PySem.W.keepIn K (.ref x__law_fitting) = true)
    (ha__law_least : PySem.W.nsIn K mainGlobals "_law_least" = some (some (.ref x__law_least)))
    (hl__law_least : K.lookup x__law_least = some ⟨oc__law_least, od__law_least, .func (PySem.W.fnOf "_law_least" "_law_least" (defArgs s__law_least) (defBody s__law_least) (defScope s__law_least) .none kV__law_least dc__law_least pm__law_least an__law_least cd__law_least ct__law_least), sl__law_least⟩)
    (hc__law_least : PySem.W.codeIn K cd__law_least "_law_least" = true)
    (hk__law_least : PySem.W.keepIn K (.ref x__law_least) = true)
    (ha__law_greatest : PySem.W.nsIn K mainGlobals "_law_greatest" = some (some (.ref x__law_greatest)))
    (hl__law_greatest : K.lookup x__law_greatest = some ⟨oc__law_greatest, od__law_greatest, .func (PySem.W.fnOf "_law_greatest" "_law_greatest" (defArgs s__law_greatest) (defBody s__law_greatest) (defScope s__law_greatest) .none kV__law_greatest dc__law_greatest pm__law_greatest an__law_greatest cd__law_greatest ct__law_greatest), sl__law_greatest⟩)
    (hc__law_greatest : PySem.W.codeIn K cd__law_greatest "_law_greatest" = true)
    (hk__law_greatest : PySem.W.keepIn K (.ref x__law_greatest) = true)
    (ha__law_person : PySem.W.nsIn K mainGlobals "_law_person" = some (some (.ref x__law_person)))
    (hl__law_person : K.lookup x__law_person = some ⟨oc__law_person, od__law_person, .func (PySem.W.fnOf "_law_person" "_law_person" (defArgs s__law_person) (defBody s__law_person) (defScope s__law_person) .none kV__law_person dc__law_person pm__law_person an__law_person cd__law_person ct__law_person), sl__law_person⟩)
    (hc__law_person : PySem.W.codeIn K cd__law_person "_law_person" = true)
    (hk__law_person : PySem.W.keepIn K (.ref x__law_person) = true)
    (ha__law_word : PySem.W.nsIn K mainGlobals "_law_word" = some (some (.ref x__law_word)))
    (hl__law_word : K.lookup x__law_word = some ⟨oc__law_word, od__law_word, .func (PySem.W.fnOf "_law_word" "_law_word" (defArgs s__law_word) (defBody s__law_word) (defScope s__law_word) .none kV__law_word dc__law_word pm__law_word an__law_word cd__law_word ct__law_word), sl__law_word⟩)
    (hc__law_word : PySem.W.codeIn K cd__law_word "_law_word" = true)
    (hk__law_word : PySem.W.keepIn K (.ref x__law_word) = true)
    (ha__law_words : PySem.W.nsIn K mainGlobals "_law_words" = some (some (.ref x__law_words)))
    (hl__law_words : K.lookup x__law_words = some ⟨oc__law_words, od__law_words, .func (PySem.W.fnOf "_law_words" "_law_words" (defArgs s__law_words) (defBody s__law_words) (defScope s__law_words) .none kV__law_words dc__law_words pm__law_words an__law_words cd__law_words ct__law_words), sl__law_words⟩)
    (hc__law_words : PySem.W.codeIn K cd__law_words "_law_words" = true)
    (hk__law_words : PySem.W.keepIn K (.ref x__law_words) = true)
    (ha__law_common : PySem.W.nsIn K mainGlobals "_law_common" = some (some (.ref x__law_common)))
    (hl__law_common : K.lookup x__law_common = some ⟨oc__law_common, od__law_common, .func (PySem.W.fnOf "_law_common" "_law_common" (defArgs s__law_common) (defBody s__law_common) (defScope s__law_common) .none kV__law_common dc__law_common pm__law_common an__law_common cd__law_common ct__law_common), sl__law_common⟩)
    (hc__law_common : PySem.W.codeIn K cd__law_common "_law_common" = true)
    (hk__law_common : PySem.W.keepIn K (.ref x__law_common) = true)
    (ha__law_first_pair : PySem.W.nsIn K mainGlobals "_law_first_pair" = some (some (.ref x__law_first_pair)))
    (hl__law_first_pair : K.lookup x__law_first_pair = some ⟨oc__law_first_pair, od__law_first_pair, .func (PySem.W.fnOf "_law_first_pair" "_law_first_pair" (defArgs s__law_first_pair) (defBody s__law_first_pair) (defScope s__law_first_pair) .none kV__law_first_pair dc__law_first_pair pm__law_first_pair an__law_first_pair cd__law_first_pair ct__law_first_pair), sl__law_first_pair⟩)
    (hc__law_first_pair : PySem.W.codeIn K cd__law_first_pair "_law_first_pair" = true)
    (hk__law_first_pair : PySem.W.keepIn K (.ref x__law_first_pair) = true)
    (ha__law_item : PySem.W.nsIn K mainGlobals "_law_item" = some (some (.ref x__law_item)))
    (hl__law_item : K.lookup x__law_item = some ⟨oc__law_item, od__law_item, .func (PySem.W.fnOf "_law_item" "_law_item" (defArgs s__law_item) (defBody s__law_item) (defScope s__law_item) .none kV__law_item dc__law_item pm__law_item an__law_item cd__law_item ct__law_item), sl__law_item⟩)
    (hc__law_item : PySem.W.codeIn K cd__law_item "_law_item" = true)
    (hk__law_item : PySem.W.keepIn K (.ref x__law_item) = true)
    (ha__law_pairs : PySem.W.nsIn K mainGlobals "_law_pairs" = some (some (.ref x__law_pairs)))
    (hl__law_pairs : K.lookup x__law_pairs = some ⟨oc__law_pairs, od__law_pairs, .func (PySem.W.fnOf "_law_pairs" "_law_pairs" (defArgs s__law_pairs) (defBody s__law_pairs) (defScope s__law_pairs) .none kV__law_pairs dc__law_pairs pm__law_pairs an__law_pairs cd__law_pairs ct__law_pairs), sl__law_pairs⟩)
    (hc__law_pairs : PySem.W.codeIn K cd__law_pairs "_law_pairs" = true)
    (hk__law_pairs : PySem.W.keepIn K (.ref x__law_pairs) = true)
    (ha_law : PySem.W.nsIn K mainGlobals "law" = some (some (.ref x_law)))
    (hl_law : K.lookup x_law = some ⟨oc_law, od_law, .func (PySem.W.fnOf "law" "law" (defArgs s_law) (defBody s_law) (defScope s_law) .none kV_law dc_law pm_law an_law cd_law ct_law), sl_law⟩)
    (hc_law : PySem.W.codeIn K cd_law "law" = true)
    (hk_law : PySem.W.keepIn K (.ref x_law) = true)
    (hn_ValueError : PySem.W.nsIn K mainGlobals "ValueError" = some none)
    (hn_abs : PySem.W.nsIn K mainGlobals "abs" = some none)
    (hn_all : PySem.W.nsIn K mainGlobals "all" = some none)
    (hn_any : PySem.W.nsIn K mainGlobals "any" = some none)
    (hn_bool : PySem.W.nsIn K mainGlobals "bool" = some none)
    (hn_enumerate : PySem.W.nsIn K mainGlobals "enumerate" = some none)
    (hn_int : PySem.W.nsIn K mainGlobals "int" = some none)
    (hn_isinstance : PySem.W.nsIn K mainGlobals "isinstance" = some none)
    (hn_len : PySem.W.nsIn K mainGlobals "len" = some none)
    (hn_list : PySem.W.nsIn K mainGlobals "list" = some none)
    (hn_max : PySem.W.nsIn K mainGlobals "max" = some none)
    (hn_min : PySem.W.nsIn K mainGlobals "min" = some none)
    (hn_range : PySem.W.nsIn K mainGlobals "range" = some none)
    (hn_sorted : PySem.W.nsIn K mainGlobals "sorted" = some none)
    (hn_str : PySem.W.nsIn K mainGlobals "str" = some none)
    (hn_tuple : PySem.W.nsIn K mainGlobals "tuple" = some none)
    (ol_EmptyStay : K.lookup x_EmptyStay = some (excClassObj nm_EmptyStay q_EmptyStay x_EmptyStay N_EmptyStay bs_EmptyStay bm_EmptyStay true sn_EmptyStay sub_EmptyStay ab_EmptyStay col_EmptyStay dd_EmptyStay m0_EmptyStay m1_EmptyStay m2_EmptyStay m3_EmptyStay m5_EmptyStay "ValueError.__new__"))
    (or_EmptyStay : PySem.HandSPX.refsVE bm_EmptyStay = true)
    (ol_OutOfRange : K.lookup x_OutOfRange = some (excClassObj nm_OutOfRange q_OutOfRange x_OutOfRange N_OutOfRange bs_OutOfRange bm_OutOfRange true sn_OutOfRange sub_OutOfRange ab_OutOfRange col_OutOfRange dd_OutOfRange m0_OutOfRange m1_OutOfRange m2_OutOfRange m3_OutOfRange m5_OutOfRange "ValueError.__new__"))
    (or_OutOfRange : PySem.HandSPX.refsVE bm_OutOfRange = true)
    (hx_sr_Stay_around : PySem.W.readsIn K x_Stay (.type "type") = true)
    (hx_sg_Stay_around : PySem.W.specialIn K (.ref x_Stay) "__getattribute__" = some (some (.builtin "type.__getattribute__")))
    (hx_xsa_EmptyStay : PySem.W.findIn K (.ref x_EmptyStay) "__setattr__" = some (some (.builtin "object.__setattr__")))
    (hx_xga_EmptyStay : PySem.W.findIn K (.ref x_EmptyStay) "__getattribute__" = some (some (.builtin "BaseException.__getattribute__")))
    (hx_xgg_EmptyStay : PySem.W.findIn K (.ref x_EmptyStay) "__getattr__" = some none)
    (hx_xbe_EmptyStay : PySem.W.subIn K (.ref x_EmptyStay) (.type "BaseException") = some true)
    (hx_xty_EmptyStay : PySem.W.typeIn K (.ref x_EmptyStay) = some (.type "type"))
    (hx_xhd_EmptyStay : PySem.W.hasDictIn K x_EmptyStay = true)
    (hx_xca_EmptyStay : PySem.W.findIn K (.ref x_EmptyStay) "__class__" = some (some (.builtin "object.__class__")))
    (hx_xmo_EmptyStay : PySem.W.mroIn K x_EmptyStay (.type "object") = some true)
    (hx_xti_EmptyStay : PySem.W.typeIn K (.ref x_EmptyStay_init) = some (.type "function"))
    (hx_xsa_OutOfRange : PySem.W.findIn K (.ref x_OutOfRange) "__setattr__" = some (some (.builtin "object.__setattr__")))
    (hx_xga_OutOfRange : PySem.W.findIn K (.ref x_OutOfRange) "__getattribute__" = some (some (.builtin "BaseException.__getattribute__")))
    (hx_xgg_OutOfRange : PySem.W.findIn K (.ref x_OutOfRange) "__getattr__" = some none)
    (hx_xbe_OutOfRange : PySem.W.subIn K (.ref x_OutOfRange) (.type "BaseException") = some true)
    (hx_xty_OutOfRange : PySem.W.typeIn K (.ref x_OutOfRange) = some (.type "type"))
    (hx_xhd_OutOfRange : PySem.W.hasDictIn K x_OutOfRange = true)
    (hx_xca_OutOfRange : PySem.W.findIn K (.ref x_OutOfRange) "__class__" = some (some (.builtin "object.__class__")))
    (hx_xmo_OutOfRange : PySem.W.mroIn K x_OutOfRange (.type "object") = some true)
    (hx_xti_OutOfRange : PySem.W.typeIn K (.ref x_OutOfRange_init) = some (.type "function"))
    (hx_xq_NoDays : PySem.W.excIn K x_NoDays [.type "ValueError", .type "Exception", .type "BaseException", .type "object"] "ValueError.__new__" = true)
    (hx_xga_NoDays : PySem.W.findIn K (.ref x_NoDays) "__getattribute__" = some (some (.builtin "BaseException.__getattribute__")))
    (hx_xgg_NoDays : PySem.W.findIn K (.ref x_NoDays) "__getattr__" = some none)
    (hx_xbe_NoDays : PySem.W.subIn K (.ref x_NoDays) (.type "BaseException") = some true)
    (hx_xty_NoDays : PySem.W.typeIn K (.ref x_NoDays) = some (.type "type"))
    (hx_xhd_NoDays : PySem.W.hasDictIn K x_NoDays = true)
    (hx_xca_NoDays : PySem.W.findIn K (.ref x_NoDays) "__class__" = some (some (.builtin "object.__class__")))
    (hx_xmo_NoDays : PySem.W.mroIn K x_NoDays (.type "object") = some true)
    (hx_cn_ : PySem.W.specialIn K (.builtin "object.__class__") "__get__" = some (some (.builtin "getset_descriptor.__get__")))
    (hx_ct_ : PySem.W.takesIn K (.builtin "object.__class__") = some true)
    (hx_ymk_Stay : PySem.W.makesIn K x_Stay = true)
    (hx_ypg_Stay : PySem.W.plainGet K x_Stay Str.empty = true)
    (hx_yhd_Stay : PySem.W.hasDictIn K x_Stay = true)
    (hx_ypo_Stay : PySem.W.plainOver K x_Stay = true)
    (hx_ysa_Stay : PySem.W.findIn K (.ref x_Stay) "__setattr__" = some (some (.builtin "object.__setattr__")))
    (hx_ysf_Stay : PySem.W.selfFirst K x_Stay = true)
    (hx_yca_Stay : PySem.W.findIn K (.ref x_Stay) "__class__" = some (some (.builtin "object.__class__")))
    (hx_ymo_Stay : PySem.W.mroIn K x_Stay (.type "object") = some true)
    (hx_e_EmptyStay_come : PySem.W.findIn K (.ref x_EmptyStay) "come" = some none)
    (hx_e_EmptyStay_go : PySem.W.findIn K (.ref x_EmptyStay) "go" = some none)
    (hx_e_OutOfRange_value : PySem.W.findIn K (.ref x_OutOfRange) "value" = some none)
    (hx_zo_Stay_Stay : PySem.W.kitOne K (.ref x_Stay) (.ref x_Stay) = some true)
    (hx_zo_Stay_bool : PySem.W.kitOne K (.ref x_Stay) (.type "bool") = some false)
    (hx_zo_Stay_int : PySem.W.kitOne K (.ref x_Stay) (.type "int") = some false)
    (hx_zo_Stay_str : PySem.W.kitOne K (.ref x_Stay) (.type "str") = some false)
    (hx_zo_Stay_tuple : PySem.W.kitOne K (.ref x_Stay) (.type "tuple") = some false)
    (hx_no_Stay_come : PySem.W.findIn K (.ref x_Stay) "come" = some none)
    (hx_no_Stay_go : PySem.W.findIn K (.ref x_Stay) "go" = some none)
    (hx_nit : VL.NoInt K) :
    ∃ fd : FuncData, (∀ (s : Shared) (v : Value), BindsTo s fd ⟨[v], []⟩ [("_law_script", v)]) ∧ ∀ base : Heap, K.In base → base.Ns mainGlobals mg → FnOk l.prog w K mg base CX0 13 fa fd ["_law_script"] (spLaw K) := by
  have e := hfa.symm.trans (PySem.W.mg_of X G ha_law)
  cases e
  have F_OutOfRange_init := fun_mk (st := s_OutOfRange_init) hl_OutOfRange_init hc_OutOfRange_init hk_OutOfRange_init
  have b_OutOfRange_init := F_OutOfRange_init.binds (ps := ["self", "value"]) fun _ _ _ _ _ _ us hl => match us, hl with | [_, _], _ => rfl
  have F_EmptyStay_init := fun_mk (st := s_EmptyStay_init) hl_EmptyStay_init hc_EmptyStay_init hk_EmptyStay_init
  have b_EmptyStay_init := F_EmptyStay_init.binds (ps := ["self", "come", "go"]) fun _ _ _ _ _ _ us hl => match us, hl with | [_, _, _], _ => rfl
  have F_Stay_init := fun_mk (st := s_Stay_init) hl_Stay_init hc_Stay_init hk_Stay_init
  have b_Stay_init := F_Stay_init.binds (ps := ["self", "come", "go"]) fun _ _ _ _ _ _ us hl => match us, hl with | [_, _, _], _ => rfl
  have F_Stay___contains__ := fun_mk (st := s_Stay___contains__) hl_Stay___contains__ hc_Stay___contains__ hk_Stay___contains__
  have b_Stay___contains__ := F_Stay___contains__.binds (ps := ["self", "day"]) fun _ _ _ _ _ _ us hl => match us, hl with | [_, _], _ => rfl
  have F_Stay_meets := fun_mk (st := s_Stay_meets) hl_Stay_meets hc_Stay_meets hk_Stay_meets
  have b_Stay_meets := F_Stay_meets.binds (ps := ["self", "other"]) fun _ _ _ _ _ _ us hl => match us, hl with | [_, _], _ => rfl
  have F_Stay_around := fun_mk (st := s_Stay_around) hl_Stay_around hc_Stay_around hk_Stay_around
  have b_Stay_around := F_Stay_around.binds (ps := ["days"]) fun _ _ _ _ _ _ us hl => match us, hl with | [_], _ => rfl
  have F__check_days := fun_mk (st := s__check_days) hl__check_days hc__check_days hk__check_days
  have b__check_days := F__check_days.binds (ps := ["notes", "last"]) fun _ _ _ _ _ _ us hl => match us, hl with | [_, _], _ => rfl
  have F__noted := fun_mk (st := s__noted) hl__noted hc__noted hk__noted
  have b__noted := F__noted.binds (ps := ["notes", "seen"]) fun _ _ _ _ _ _ us hl => match us, hl with | [_, _], _ => rfl
  have F__days := fun_mk (st := s__days) hl__days hc__days hk__days
  have b__days := F__days.binds (ps := ["noted"]) fun _ _ _ _ _ _ us hl => match us, hl with | [_], _ => rfl
  have F_least_stays := fun_mk (st := s_least_stays) hl_least_stays hc_least_stays hk_least_stays
  have b_least_stays := F_least_stays.binds (ps := ["notes", "last"]) fun _ _ _ _ _ _ us hl => match us, hl with | [_, _], _ => rfl
  have F_greatest_stays := fun_mk (st := s_greatest_stays) hl_greatest_stays hc_greatest_stays hk_greatest_stays
  have b_greatest_stays := F_greatest_stays.binds (ps := ["notes", "last"]) fun _ _ _ _ _ _ us hl => match us, hl with | [_, _], _ => rfl
  have F_surely_on := fun_mk (st := s_surely_on) hl_surely_on hc_surely_on hk_surely_on
  have b_surely_on := F_surely_on.binds (ps := ["notes", "last", "day"]) fun _ _ _ _ _ _ us hl => match us, hl with | [_, _, _], _ => rfl
  have F__first_pair := fun_mk (st := s__first_pair) hl__first_pair hc__first_pair hk__first_pair
  have b__first_pair := F__first_pair.binds (ps := ["stays", "others", "meeting"]) fun _ _ _ _ _ _ us hl => match us, hl with | [_, _, _], _ => rfl
  have F_meeting_pairs := fun_mk (st := s_meeting_pairs) hl_meeting_pairs hc_meeting_pairs hk_meeting_pairs
  have b_meeting_pairs := F_meeting_pairs.binds (ps := ["notes", "other", "last"]) fun _ _ _ _ _ _ us hl => match us, hl with | [_, _, _], _ => rfl
  have F__law_draws := fun_mk (st := s__law_draws) hl__law_draws hc__law_draws hk__law_draws
  have b__law_draws := F__law_draws.binds (ps := ["_law_script"]) fun _ _ _ _ _ _ us hl => match us, hl with | [_], _ => rfl
  have F__law_take := fun_mk (st := s__law_take) hl__law_take hc__law_take hk__law_take
  have b__law_take := F__law_take.binds (ps := ["_law_box", "_law_limit"]) fun _ _ _ _ _ _ us hl => match us, hl with | [_, _], _ => rfl
  have F__law_number := fun_mk (st := s__law_number) hl__law_number hc__law_number hk__law_number
  have b__law_number := F__law_number.binds (ps := ["_law_actual", "_law_due"]) fun _ _ _ _ _ _ us hl => match us, hl with | [_, _], _ => rfl
  have F__law_is := fun_mk (st := s__law_is) hl__law_is hc__law_is hk__law_is
  have b__law_is := F__law_is.binds (ps := ["_law_stay", "_law_days"]) fun _ _ _ _ _ _ us hl => match us, hl with | [_, _], _ => rfl
  have F__law_true_notes := fun_mk (st := s__law_true_notes) hl__law_true_notes hc__law_true_notes hk__law_true_notes
  have b__law_true_notes := F__law_true_notes.binds (ps := ["_law_box", "_law_last", "_law_low", "_law_high", "_law_most"]) fun _ _ _ _ _ _ us hl => match us, hl with | [_, _, _, _, _], _ => rfl
  have F__law_empty_days := fun_mk (st := s__law_empty_days) hl__law_empty_days hc__law_empty_days hk__law_empty_days
  have b__law_empty_days := F__law_empty_days.binds (ps := ["_law_box", "_law_last"]) fun _ _ _ _ _ _ us hl => match us, hl with | [_, _], _ => rfl
  have F__law_notes := fun_mk (st := s__law_notes) hl__law_notes hc__law_notes hk__law_notes
  have b__law_notes := F__law_notes.binds (ps := ["_law_box", "_law_last", "_law_low", "_law_high"]) fun _ _ _ _ _ _ us hl => match us, hl with | [_, _, _, _], _ => rfl
  have F__law_fences := fun_mk (st := s__law_fences) hl__law_fences hc__law_fences hk__law_fences
  have b__law_fences := F__law_fences.binds (ps := ["_law_box", "_law_last", "_law_low", "_law_high"]) fun _ _ _ _ _ _ us hl => match us, hl with | [_, _, _, _], _ => rfl
  have F__law_fitting := fun_mk (st := s__law_fitting) hl__law_fitting hc__law_fitting hk__law_fitting
  have b__law_fitting := F__law_fitting.binds (ps := ["_law_notes_here", "_law_last"]) fun _ _ _ _ _ _ us hl => match us, hl with | [_, _], _ => rfl
  have F__law_least := fun_mk (st := s__law_least) hl__law_least hc__law_least hk__law_least
  have b__law_least := F__law_least.binds (ps := ["_law_rows"]) fun _ _ _ _ _ _ us hl => match us, hl with | [_], _ => rfl
  have F__law_greatest := fun_mk (st := s__law_greatest) hl__law_greatest hc__law_greatest hk__law_greatest
  have b__law_greatest := F__law_greatest.binds (ps := ["_law_rows"]) fun _ _ _ _ _ _ us hl => match us, hl with | [_], _ => rfl
  have F__law_person := fun_mk (st := s__law_person) hl__law_person hc__law_person hk__law_person
  have b__law_person := F__law_person.binds (ps := ["_law_box", "_law_last", "_law_wide"]) fun _ _ _ _ _ _ us hl => match us, hl with | [_, _, _], _ => rfl
  have F__law_word := fun_mk (st := s__law_word) hl__law_word hc__law_word hk__law_word
  have b__law_word := F__law_word.binds (ps := ["_law_rows", "_law_day"]) fun _ _ _ _ _ _ us hl => match us, hl with | [_, _], _ => rfl
  have F__law_words := fun_mk (st := s__law_words) hl__law_words hc__law_words hk__law_words
  have b__law_words := F__law_words.binds (ps := ["_law_box", "_law_notes_here", "_law_last", "_law_rows"]) fun _ _ _ _ _ _ us hl => match us, hl with | [_, _, _, _], _ => rfl
  have F__law_common := fun_mk (st := s__law_common) hl__law_common hc__law_common hk__law_common
  have b__law_common := F__law_common.binds (ps := ["_law_one", "_law_other"]) fun _ _ _ _ _ _ us hl => match us, hl with | [_, _], _ => rfl
  have F__law_first_pair := fun_mk (st := s__law_first_pair) hl__law_first_pair hc__law_first_pair hk__law_first_pair
  have b__law_first_pair := F__law_first_pair.binds (ps := ["_law_rows", "_law_others", "_law_common_here"]) fun _ _ _ _ _ _ us hl => match us, hl with | [_, _, _], _ => rfl
  have F__law_item := fun_mk (st := s__law_item) hl__law_item hc__law_item hk__law_item
  have b__law_item := F__law_item.binds (ps := ["_law_actual", "_law_due"]) fun _ _ _ _ _ _ us hl => match us, hl with | [_, _], _ => rfl
  have F__law_pairs := fun_mk (st := s__law_pairs) hl__law_pairs hc__law_pairs hk__law_pairs
  have b__law_pairs := F__law_pairs.binds (ps := ["_law_actual", "_law_mine", "_law_others"]) fun _ _ _ _ _ _ us hl => match us, hl with | [_, _, _], _ => rfl
  have F_law := fun_mk (st := s_law) hl_law hc_law hk_law
  have b_law := F_law.binds (ps := ["_law_script"]) fun _ _ _ _ _ _ us hl => match us, hl with | [_], _ => rfl
  let D : Ad := {
    a_OutOfRange_init := x_OutOfRange_init, d_OutOfRange_init := PySem.W.fnOf "__init__" "OutOfRange.__init__" (defArgs s_OutOfRange_init) (defBody s_OutOfRange_init) (defScope s_OutOfRange_init) .none kV_OutOfRange_init dc_OutOfRange_init pm_OutOfRange_init an_OutOfRange_init cd_OutOfRange_init ct_OutOfRange_init,
    a_EmptyStay_init := x_EmptyStay_init, d_EmptyStay_init := PySem.W.fnOf "__init__" "EmptyStay.__init__" (defArgs s_EmptyStay_init) (defBody s_EmptyStay_init) (defScope s_EmptyStay_init) .none kV_EmptyStay_init dc_EmptyStay_init pm_EmptyStay_init an_EmptyStay_init cd_EmptyStay_init ct_EmptyStay_init,
    a_Stay_init := x_Stay_init, d_Stay_init := PySem.W.fnOf "__init__" "Stay.__init__" (defArgs s_Stay_init) (defBody s_Stay_init) (defScope s_Stay_init) .none kV_Stay_init dc_Stay_init pm_Stay_init an_Stay_init cd_Stay_init ct_Stay_init,
    a_Stay___contains__ := x_Stay___contains__, d_Stay___contains__ := PySem.W.fnOf "__contains__" "Stay.__contains__" (defArgs s_Stay___contains__) (defBody s_Stay___contains__) (defScope s_Stay___contains__) .none kV_Stay___contains__ dc_Stay___contains__ pm_Stay___contains__ an_Stay___contains__ cd_Stay___contains__ ct_Stay___contains__,
    a_Stay_meets := x_Stay_meets, d_Stay_meets := PySem.W.fnOf "meets" "Stay.meets" (defArgs s_Stay_meets) (defBody s_Stay_meets) (defScope s_Stay_meets) .none kV_Stay_meets dc_Stay_meets pm_Stay_meets an_Stay_meets cd_Stay_meets ct_Stay_meets,
    a_Stay_around := x_Stay_around, d_Stay_around := PySem.W.fnOf "around" "Stay.around" (defArgs s_Stay_around) (defBody s_Stay_around) (defScope s_Stay_around) .none kV_Stay_around dc_Stay_around pm_Stay_around an_Stay_around cd_Stay_around ct_Stay_around,
    a__check_days := x__check_days, d__check_days := PySem.W.fnOf "_check_days" "_check_days" (defArgs s__check_days) (defBody s__check_days) (defScope s__check_days) .none kV__check_days dc__check_days pm__check_days an__check_days cd__check_days ct__check_days,
    a__noted := x__noted, d__noted := PySem.W.fnOf "_noted" "_noted" (defArgs s__noted) (defBody s__noted) (defScope s__noted) .none kV__noted dc__noted pm__noted an__noted cd__noted ct__noted,
    a__days := x__days, d__days := PySem.W.fnOf "_days" "_days" (defArgs s__days) (defBody s__days) (defScope s__days) .none kV__days dc__days pm__days an__days cd__days ct__days,
    a_least_stays := x_least_stays, d_least_stays := PySem.W.fnOf "least_stays" "least_stays" (defArgs s_least_stays) (defBody s_least_stays) (defScope s_least_stays) .none kV_least_stays dc_least_stays pm_least_stays an_least_stays cd_least_stays ct_least_stays,
    a_greatest_stays := x_greatest_stays, d_greatest_stays := PySem.W.fnOf "greatest_stays" "greatest_stays" (defArgs s_greatest_stays) (defBody s_greatest_stays) (defScope s_greatest_stays) .none kV_greatest_stays dc_greatest_stays pm_greatest_stays an_greatest_stays cd_greatest_stays ct_greatest_stays,
    a_surely_on := x_surely_on, d_surely_on := PySem.W.fnOf "surely_on" "surely_on" (defArgs s_surely_on) (defBody s_surely_on) (defScope s_surely_on) .none kV_surely_on dc_surely_on pm_surely_on an_surely_on cd_surely_on ct_surely_on,
    a__first_pair := x__first_pair, d__first_pair := PySem.W.fnOf "_first_pair" "_first_pair" (defArgs s__first_pair) (defBody s__first_pair) (defScope s__first_pair) .none kV__first_pair dc__first_pair pm__first_pair an__first_pair cd__first_pair ct__first_pair,
    a_meeting_pairs := x_meeting_pairs, d_meeting_pairs := PySem.W.fnOf "meeting_pairs" "meeting_pairs" (defArgs s_meeting_pairs) (defBody s_meeting_pairs) (defScope s_meeting_pairs) .none kV_meeting_pairs dc_meeting_pairs pm_meeting_pairs an_meeting_pairs cd_meeting_pairs ct_meeting_pairs,
    a__law_draws := x__law_draws, d__law_draws := PySem.W.fnOf "_law_draws" "_law_draws" (defArgs s__law_draws) (defBody s__law_draws) (defScope s__law_draws) .none kV__law_draws dc__law_draws pm__law_draws an__law_draws cd__law_draws ct__law_draws,
    a__law_take := x__law_take, d__law_take := PySem.W.fnOf "_law_take" "_law_take" (defArgs s__law_take) (defBody s__law_take) (defScope s__law_take) .none kV__law_take dc__law_take pm__law_take an__law_take cd__law_take ct__law_take,
    a__law_number := x__law_number, d__law_number := PySem.W.fnOf "_law_number" "_law_number" (defArgs s__law_number) (defBody s__law_number) (defScope s__law_number) .none kV__law_number dc__law_number pm__law_number an__law_number cd__law_number ct__law_number,
    a__law_is := x__law_is, d__law_is := PySem.W.fnOf "_law_is" "_law_is" (defArgs s__law_is) (defBody s__law_is) (defScope s__law_is) .none kV__law_is dc__law_is pm__law_is an__law_is cd__law_is ct__law_is,
    a__law_true_notes := x__law_true_notes, d__law_true_notes := PySem.W.fnOf "_law_true_notes" "_law_true_notes" (defArgs s__law_true_notes) (defBody s__law_true_notes) (defScope s__law_true_notes) .none kV__law_true_notes dc__law_true_notes pm__law_true_notes an__law_true_notes cd__law_true_notes ct__law_true_notes,
    a__law_empty_days := x__law_empty_days, d__law_empty_days := PySem.W.fnOf "_law_empty_days" "_law_empty_days" (defArgs s__law_empty_days) (defBody s__law_empty_days) (defScope s__law_empty_days) .none kV__law_empty_days dc__law_empty_days pm__law_empty_days an__law_empty_days cd__law_empty_days ct__law_empty_days,
    a__law_notes := x__law_notes, d__law_notes := PySem.W.fnOf "_law_notes" "_law_notes" (defArgs s__law_notes) (defBody s__law_notes) (defScope s__law_notes) .none kV__law_notes dc__law_notes pm__law_notes an__law_notes cd__law_notes ct__law_notes,
    a__law_fences := x__law_fences, d__law_fences := PySem.W.fnOf "_law_fences" "_law_fences" (defArgs s__law_fences) (defBody s__law_fences) (defScope s__law_fences) .none kV__law_fences dc__law_fences pm__law_fences an__law_fences cd__law_fences ct__law_fences,
    a__law_fitting := x__law_fitting, d__law_fitting := PySem.W.fnOf "_law_fitting" "_law_fitting" (defArgs s__law_fitting) (defBody s__law_fitting) (defScope s__law_fitting) .none kV__law_fitting dc__law_fitting pm__law_fitting an__law_fitting cd__law_fitting ct__law_fitting,
    a__law_least := x__law_least, d__law_least := PySem.W.fnOf "_law_least" "_law_least" (defArgs s__law_least) (defBody s__law_least) (defScope s__law_least) .none kV__law_least dc__law_least pm__law_least an__law_least cd__law_least ct__law_least,
    a__law_greatest := x__law_greatest, d__law_greatest := PySem.W.fnOf "_law_greatest" "_law_greatest" (defArgs s__law_greatest) (defBody s__law_greatest) (defScope s__law_greatest) .none kV__law_greatest dc__law_greatest pm__law_greatest an__law_greatest cd__law_greatest ct__law_greatest,
    a__law_person := x__law_person, d__law_person := PySem.W.fnOf "_law_person" "_law_person" (defArgs s__law_person) (defBody s__law_person) (defScope s__law_person) .none kV__law_person dc__law_person pm__law_person an__law_person cd__law_person ct__law_person,
    a__law_word := x__law_word, d__law_word := PySem.W.fnOf "_law_word" "_law_word" (defArgs s__law_word) (defBody s__law_word) (defScope s__law_word) .none kV__law_word dc__law_word pm__law_word an__law_word cd__law_word ct__law_word,
    a__law_words := x__law_words, d__law_words := PySem.W.fnOf "_law_words" "_law_words" (defArgs s__law_words) (defBody s__law_words) (defScope s__law_words) .none kV__law_words dc__law_words pm__law_words an__law_words cd__law_words ct__law_words,
    a__law_common := x__law_common, d__law_common := PySem.W.fnOf "_law_common" "_law_common" (defArgs s__law_common) (defBody s__law_common) (defScope s__law_common) .none kV__law_common dc__law_common pm__law_common an__law_common cd__law_common ct__law_common,
    a__law_first_pair := x__law_first_pair, d__law_first_pair := PySem.W.fnOf "_law_first_pair" "_law_first_pair" (defArgs s__law_first_pair) (defBody s__law_first_pair) (defScope s__law_first_pair) .none kV__law_first_pair dc__law_first_pair pm__law_first_pair an__law_first_pair cd__law_first_pair ct__law_first_pair,
    a__law_item := x__law_item, d__law_item := PySem.W.fnOf "_law_item" "_law_item" (defArgs s__law_item) (defBody s__law_item) (defScope s__law_item) .none kV__law_item dc__law_item pm__law_item an__law_item cd__law_item ct__law_item,
    a__law_pairs := x__law_pairs, d__law_pairs := PySem.W.fnOf "_law_pairs" "_law_pairs" (defArgs s__law_pairs) (defBody s__law_pairs) (defScope s__law_pairs) .none kV__law_pairs dc__law_pairs pm__law_pairs an__law_pairs cd__law_pairs ct__law_pairs,
    a_law := fa, d_law := PySem.W.fnOf "law" "law" (defArgs s_law) (defBody s_law) (defScope s_law) .none kV_law dc_law pm_law an_law cd_law ct_law,
    c_ArchiveError := x_ArchiveError,
    c_OutOfRange := x_OutOfRange,
    c_EmptyStay := x_EmptyStay,
    c_NoCommonDay := x_NoCommonDay,
    c_NoDays := x_NoDays,
    c_Stay := x_Stay,
    p_Stay_around := q_Stay_around }
  have T : Txt K mg D := { F_OutOfRange_init := F_OutOfRange_init, b_OutOfRange_init := b_OutOfRange_init, m_OutOfRange_init := ha_OutOfRange_init, i_OutOfRange_init := hi_OutOfRange_init, F_EmptyStay_init := F_EmptyStay_init, b_EmptyStay_init := b_EmptyStay_init, m_EmptyStay_init := ha_EmptyStay_init, i_EmptyStay_init := hi_EmptyStay_init, F_Stay_init := F_Stay_init, b_Stay_init := b_Stay_init, m_Stay_init := ha_Stay_init, i_Stay_init := hi_Stay_init, F_Stay___contains__ := F_Stay___contains__, b_Stay___contains__ := b_Stay___contains__, m_Stay___contains__ := ha_Stay___contains__, i_Stay___contains__ := hi_Stay___contains__, F_Stay_meets := F_Stay_meets, b_Stay_meets := b_Stay_meets, m_Stay_meets := ha_Stay_meets, i_Stay_meets := hi_Stay_meets, F_Stay_around := F_Stay_around, b_Stay_around := b_Stay_around, sr_Stay_around := hx_sr_Stay_around, sg_Stay_around := hx_sg_Stay_around, pa_Stay_around := ha_Stay_around, pr_Stay_around := ⟨_, hr_Stay_around⟩, F__check_days := F__check_days, b__check_days := b__check_days, g__check_days := PySem.W.mg_of X G ha__check_days, F__noted := F__noted, b__noted := b__noted, g__noted := PySem.W.mg_of X G ha__noted, F__days := F__days, b__days := b__days, g__days := PySem.W.mg_of X G ha__days, F_least_stays := F_least_stays, b_least_stays := b_least_stays, g_least_stays := PySem.W.mg_of X G ha_least_stays, F_greatest_stays := F_greatest_stays, b_greatest_stays := b_greatest_stays, g_greatest_stays := PySem.W.mg_of X G ha_greatest_stays, F_surely_on := F_surely_on, b_surely_on := b_surely_on, g_surely_on := PySem.W.mg_of X G ha_surely_on, F__first_pair := F__first_pair, b__first_pair := b__first_pair, g__first_pair := PySem.W.mg_of X G ha__first_pair, F_meeting_pairs := F_meeting_pairs, b_meeting_pairs := b_meeting_pairs, g_meeting_pairs := PySem.W.mg_of X G ha_meeting_pairs, F__law_draws := F__law_draws, b__law_draws := b__law_draws, g__law_draws := PySem.W.mg_of X G ha__law_draws, F__law_take := F__law_take, b__law_take := b__law_take, g__law_take := PySem.W.mg_of X G ha__law_take, F__law_number := F__law_number, b__law_number := b__law_number, g__law_number := PySem.W.mg_of X G ha__law_number, F__law_is := F__law_is, b__law_is := b__law_is, g__law_is := PySem.W.mg_of X G ha__law_is, F__law_true_notes := F__law_true_notes, b__law_true_notes := b__law_true_notes, g__law_true_notes := PySem.W.mg_of X G ha__law_true_notes, F__law_empty_days := F__law_empty_days, b__law_empty_days := b__law_empty_days, g__law_empty_days := PySem.W.mg_of X G ha__law_empty_days, F__law_notes := F__law_notes, b__law_notes := b__law_notes, g__law_notes := PySem.W.mg_of X G ha__law_notes, F__law_fences := F__law_fences, b__law_fences := b__law_fences, g__law_fences := PySem.W.mg_of X G ha__law_fences, F__law_fitting := F__law_fitting, b__law_fitting := b__law_fitting, g__law_fitting := PySem.W.mg_of X G ha__law_fitting, F__law_least := F__law_least, b__law_least := b__law_least, g__law_least := PySem.W.mg_of X G ha__law_least, F__law_greatest := F__law_greatest, b__law_greatest := b__law_greatest, g__law_greatest := PySem.W.mg_of X G ha__law_greatest, F__law_person := F__law_person, b__law_person := b__law_person, g__law_person := PySem.W.mg_of X G ha__law_person, F__law_word := F__law_word, b__law_word := b__law_word, g__law_word := PySem.W.mg_of X G ha__law_word, F__law_words := F__law_words, b__law_words := b__law_words, g__law_words := PySem.W.mg_of X G ha__law_words, F__law_common := F__law_common, b__law_common := b__law_common, g__law_common := PySem.W.mg_of X G ha__law_common, F__law_first_pair := F__law_first_pair, b__law_first_pair := b__law_first_pair, g__law_first_pair := PySem.W.mg_of X G ha__law_first_pair, F__law_item := F__law_item, b__law_item := b__law_item, g__law_item := PySem.W.mg_of X G ha__law_item, F__law_pairs := F__law_pairs, b__law_pairs := b__law_pairs, g__law_pairs := PySem.W.mg_of X G ha__law_pairs, F_law := F_law, b_law := b_law, g_law := PySem.W.mg_of X G ha_law, g_ArchiveError := PySem.W.mg_of X G hC_ArchiveError, k_ArchiveError := hK_ArchiveError, g_OutOfRange := PySem.W.mg_of X G hC_OutOfRange, k_OutOfRange := hK_OutOfRange, g_EmptyStay := PySem.W.mg_of X G hC_EmptyStay, k_EmptyStay := hK_EmptyStay, g_NoCommonDay := PySem.W.mg_of X G hC_NoCommonDay, k_NoCommonDay := hK_NoCommonDay, g_NoDays := PySem.W.mg_of X G hC_NoDays, k_NoDays := hK_NoDays, g_Stay := PySem.W.mg_of X G hC_Stay, k_Stay := hK_Stay, n_ValueError := PySem.W.mg_none_of X G hn_ValueError, n_abs := PySem.W.mg_none_of X G hn_abs, n_all := PySem.W.mg_none_of X G hn_all, n_any := PySem.W.mg_none_of X G hn_any, n_bool := PySem.W.mg_none_of X G hn_bool, n_enumerate := PySem.W.mg_none_of X G hn_enumerate, n_int := PySem.W.mg_none_of X G hn_int, n_isinstance := PySem.W.mg_none_of X G hn_isinstance, n_len := PySem.W.mg_none_of X G hn_len, n_list := PySem.W.mg_none_of X G hn_list, n_max := PySem.W.mg_none_of X G hn_max, n_min := PySem.W.mg_none_of X G hn_min, n_range := PySem.W.mg_none_of X G hn_range, n_sorted := PySem.W.mg_none_of X G hn_sorted, n_str := PySem.W.mg_none_of X G hn_str, n_tuple := PySem.W.mg_none_of X G hn_tuple, oxl_EmptyStay := ⟨_, _, _, _, _, _, _, _, _, _, _, _, _, _, _, ol_EmptyStay, or_EmptyStay⟩, xsa_EmptyStay := hx_xsa_EmptyStay, xga_EmptyStay := hx_xga_EmptyStay, xgg_EmptyStay := hx_xgg_EmptyStay, xbe_EmptyStay := hx_xbe_EmptyStay, xty_EmptyStay := hx_xty_EmptyStay, xhd_EmptyStay := hx_xhd_EmptyStay, xca_EmptyStay := hx_xca_EmptyStay, xmo_EmptyStay := hx_xmo_EmptyStay, xti_EmptyStay := hx_xti_EmptyStay, oxl_OutOfRange := ⟨_, _, _, _, _, _, _, _, _, _, _, _, _, _, _, ol_OutOfRange, or_OutOfRange⟩, xsa_OutOfRange := hx_xsa_OutOfRange, xga_OutOfRange := hx_xga_OutOfRange, xgg_OutOfRange := hx_xgg_OutOfRange, xbe_OutOfRange := hx_xbe_OutOfRange, xty_OutOfRange := hx_xty_OutOfRange, xhd_OutOfRange := hx_xhd_OutOfRange, xca_OutOfRange := hx_xca_OutOfRange, xmo_OutOfRange := hx_xmo_OutOfRange, xti_OutOfRange := hx_xti_OutOfRange, xq_NoDays := hx_xq_NoDays, xga_NoDays := hx_xga_NoDays, xgg_NoDays := hx_xgg_NoDays, xbe_NoDays := hx_xbe_NoDays, xty_NoDays := hx_xty_NoDays, xhd_NoDays := hx_xhd_NoDays, xca_NoDays := hx_xca_NoDays, xmo_NoDays := hx_xmo_NoDays, cn_ := hx_cn_, ct_ := hx_ct_, ymk_Stay := hx_ymk_Stay, ypg_Stay := hx_ypg_Stay, yhd_Stay := hx_yhd_Stay, ypo_Stay := hx_ypo_Stay, ysa_Stay := hx_ysa_Stay, ysf_Stay := hx_ysf_Stay, yca_Stay := hx_yca_Stay, ymo_Stay := hx_ymo_Stay, e_EmptyStay_come := hx_e_EmptyStay_come, e_EmptyStay_go := hx_e_EmptyStay_go, e_OutOfRange_value := hx_e_OutOfRange_value, zo_Stay_Stay := hx_zo_Stay_Stay, zo_Stay_bool := hx_zo_Stay_bool, zo_Stay_int := hx_zo_Stay_int, zo_Stay_str := hx_zo_Stay_str, zo_Stay_tuple := hx_zo_Stay_tuple, no_Stay_come := hx_no_Stay_come, no_Stay_go := hx_no_Stay_go, nit := hx_nit }
  exact ⟨D.d_law, fun s v => .of_eq rfl, fun base _ _ => ok_law (D := D) T⟩
end
theorem walk {l : PySem.W.OpenLaw} {q : Program} {loose : List Str} {XP : (Str → Option Value) → Heap → Prop} {YP : World → Heap → Prop} {d : DefRec} {K : Params → PySem.W.Frag} (hn : l.most = some 63) (hdf : d.params.defaults = [])
    (hY : ∀ (w : World) (h : Heap), YP w h → (K w.params).In h)
    (F : ∀ (w : World) (mg : Str → Option Value) (fa : Addr) (h : Heap), (K w.params).In h → h.Ns mainGlobals mg → mg d.name = some (.ref fa) →
      ∃ fd : FuncData, (∀ (s : Shared) (u : Value), BindsTo s fd ⟨[u], []⟩ [("_law_script", u)]) ∧ ∀ base : Heap, (K w.params).In base → base.Ns mainGlobals mg → FnOk l.prog w (K w.params) mg base CX0 13 fa fd ["_law_script"] (spLaw (K w.params))) :
    PySem.W.WalkO q loose XP YP l.row.toRowW d [] (fun f vs => PySem.call f vs) :=
  L2.walk_of (n := 63) (k := 13) (x := "_law_script") (CX := fun _ => CX0) (sp := fun w => spLaw (K w.params)) hn (by decide) hdf ⟨rfl, by decide, by decide⟩ hY F (fun _ _ a ns hl _ hS => ⟨a, ns, rfl, hS, hl, fun _ => rfl⟩) fun _ _ _ _ _ z => z
end Toy

open PySem PySem.W PyProof.Rows in
set_option maxRecDepth 100000 in
set_option maxHeartbeats 0 in
theorem PySem.Challenge.cw_fittingpasts_k20_stays_asked_holds : PySem.Challenge.rw_fittingpasts_k20_stays_asked.Holds := by
  w_on; o_law; k_head; (case hw => w_witness2)
  k_fill
  refine Toy.walk (l := PySem.Challenge.rw_fittingpasts_k20_stays_asked) rfl rfl (fun w h Y => PySem.W.kIn_of Y) ?F
  case F =>
    intro w mg fa h KX G hmg
    refine' Toy.all_mk KX G hmg ?hC_ArchiveError ?hK_ArchiveError ?hC_OutOfRange ?hK_OutOfRange ?hC_EmptyStay ?hK_EmptyStay ?hC_NoCommonDay ?hK_NoCommonDay ?hC_NoDays ?hK_NoDays ?hC_Stay ?hK_Stay ?ha_OutOfRange_init ?hi_OutOfRange_init ?hl_OutOfRange_init ?hc_OutOfRange_init ?hk_OutOfRange_init ?ha_EmptyStay_init ?hi_EmptyStay_init ?hl_EmptyStay_init ?hc_EmptyStay_init ?hk_EmptyStay_init ?ha_Stay_init ?hi_Stay_init ?hl_Stay_init ?hc_Stay_init ?hk_Stay_init ?ha_Stay___contains__ ?hi_Stay___contains__ ?hl_Stay___contains__ ?hc_Stay___contains__ ?hk_Stay___contains__ ?ha_Stay_meets ?hi_Stay_meets ?hl_Stay_meets ?hc_Stay_meets ?hk_Stay_meets ?ha_Stay_around ?hr_Stay_around ?hl_Stay_around ?hc_Stay_around ?hk_Stay_around ?ha__check_days ?hl__check_days ?hc__check_days ?hk__check_days ?ha__noted ?hl__noted ?hc__noted ?hk__noted ?ha__days ?hl__days ?hc__days ?hk__days ?ha_least_stays ?hl_least_stays ?hc_least_stays ?hk_least_stays ?ha_greatest_stays ?hl_greatest_stays ?hc_greatest_stays ?hk_greatest_stays ?ha_surely_on ?hl_surely_on ?hc_surely_on ?hk_surely_on ?ha__first_pair ?hl__first_pair ?hc__first_pair ?hk__first_pair ?ha_meeting_pairs ?hl_meeting_pairs ?hc_meeting_pairs ?hk_meeting_pairs ?ha__law_draws ?hl__law_draws ?hc__law_draws ?hk__law_draws ?ha__law_take ?hl__law_take ?hc__law_take ?hk__law_take ?ha__law_number ?hl__law_number ?hc__law_number ?hk__law_number ?ha__law_is ?hl__law_is ?hc__law_is ?hk__law_is ?ha__law_true_notes ?hl__law_true_notes ?hc__law_true_notes ?hk__law_true_notes ?ha__law_empty_days ?hl__law_empty_days ?hc__law_empty_days ?hk__law_empty_days ?ha__law_notes ?hl__law_notes ?hc__law_notes ?hk__law_notes ?ha__law_fences ?hl__law_fences ?hc__law_fences ?hk__law_fences ?ha__law_fitting ?hl__law_fitting ?hc__law_fitting ?hk__law_fitting ?ha__law_least ?hl__law_least ?hc__law_least ?hk__law_least ?ha__law_greatest ?hl__law_greatest ?hc__law_greatest ?hk__law_greatest ?ha__law_person ?hl__law_person ?hc__law_person ?hk__law_person ?ha__law_word ?hl__law_word ?hc__law_word ?hk__law_word ?ha__law_words ?hl__law_words ?hc__law_words ?hk__law_words ?ha__law_common ?hl__law_common ?hc__law_common ?hk__law_common ?ha__law_first_pair ?hl__law_first_pair ?hc__law_first_pair ?hk__law_first_pair ?ha__law_item ?hl__law_item ?hc__law_item ?hk__law_item ?ha__law_pairs ?hl__law_pairs ?hc__law_pairs ?hk__law_pairs ?ha_law ?hl_law ?hc_law ?hk_law ?hn_ValueError ?hn_abs ?hn_all ?hn_any ?hn_bool ?hn_enumerate ?hn_int ?hn_isinstance ?hn_len ?hn_list ?hn_max ?hn_min ?hn_range ?hn_sorted ?hn_str ?hn_tuple ?ol_EmptyStay ?or_EmptyStay ?ol_OutOfRange ?or_OutOfRange ?hx_sr_Stay_around ?hx_sg_Stay_around ?hx_xsa_EmptyStay ?hx_xga_EmptyStay ?hx_xgg_EmptyStay ?hx_xbe_EmptyStay ?hx_xty_EmptyStay ?hx_xhd_EmptyStay ?hx_xca_EmptyStay ?hx_xmo_EmptyStay ?hx_xti_EmptyStay ?hx_xsa_OutOfRange ?hx_xga_OutOfRange ?hx_xgg_OutOfRange ?hx_xbe_OutOfRange ?hx_xty_OutOfRange ?hx_xhd_OutOfRange ?hx_xca_OutOfRange ?hx_xmo_OutOfRange ?hx_xti_OutOfRange ?hx_xq_NoDays ?hx_xga_NoDays ?hx_xgg_NoDays ?hx_xbe_NoDays ?hx_xty_NoDays ?hx_xhd_NoDays ?hx_xca_NoDays ?hx_xmo_NoDays ?hx_cn_ ?hx_ct_ ?hx_ymk_Stay ?hx_ypg_Stay ?hx_yhd_Stay ?hx_ypo_Stay ?hx_ysa_Stay ?hx_ysf_Stay ?hx_yca_Stay ?hx_ymo_Stay ?hx_e_EmptyStay_come ?hx_e_EmptyStay_go ?hx_e_OutOfRange_value ?hx_zo_Stay_Stay ?hx_zo_Stay_bool ?hx_zo_Stay_int ?hx_zo_Stay_str ?hx_zo_Stay_tuple ?hx_no_Stay_come ?hx_no_Stay_go ?hx_nit
    (case hC_ArchiveError => first | k_is | rfl | k_exc)
    (case hK_ArchiveError => first | k_is | rfl | k_exc)
    (case hC_OutOfRange => first | k_is | rfl | k_exc)
    (case hK_OutOfRange => first | k_is | rfl | k_exc)
    (case hC_EmptyStay => first | k_is | rfl | k_exc)
    (case hK_EmptyStay => first | k_is | rfl | k_exc)
    (case hC_NoCommonDay => first | k_is | rfl | k_exc)
    (case hK_NoCommonDay => first | k_is | rfl | k_exc)
    (case hC_NoDays => first | k_is | rfl | k_exc)
    (case hK_NoDays => first | k_is | rfl | k_exc)
    (case hC_Stay => first | k_is | rfl | k_exc)
    (case hK_Stay => first | k_is | rfl | k_exc)
    (case ha_OutOfRange_init => first | k_is | rfl | k_exc)
    (case hi_OutOfRange_init => first | k_is | rfl | k_exc)
    (case hl_OutOfRange_init => first | k_is | rfl | k_exc)
    (case hc_OutOfRange_init => first | k_is | rfl | k_exc)
    (case hk_OutOfRange_init => first | k_is | rfl | k_exc)
    (case ha_EmptyStay_init => first | k_is | rfl | k_exc)
    (case hi_EmptyStay_init => first | k_is | rfl | k_exc)
    (case hl_EmptyStay_init => first | k_is | rfl | k_exc)
    (case hc_EmptyStay_init => first | k_is | rfl | k_exc)
    (case hk_EmptyStay_init => first | k_is | rfl | k_exc)
    (case ha_Stay_init => first | k_is | rfl | k_exc)
    (case hi_Stay_init => first | k_is | rfl | k_exc)
    (case hl_Stay_init => first | k_is | rfl | k_exc)
    (case hc_Stay_init => first | k_is | rfl | k_exc)
    (case hk_Stay_init => first | k_is | rfl | k_exc)
    (case ha_Stay___contains__ => first | k_is | rfl | k_exc)
    (case hi_Stay___contains__ => first | k_is | rfl | k_exc)
    (case hl_Stay___contains__ => first | k_is | rfl | k_exc)
    (case hc_Stay___contains__ => first | k_is | rfl | k_exc)
    (case hk_Stay___contains__ => first | k_is | rfl | k_exc)
    (case ha_Stay_meets => first | k_is | rfl | k_exc)
    (case hi_Stay_meets => first | k_is | rfl | k_exc)
    (case hl_Stay_meets => first | k_is | rfl | k_exc)
    (case hc_Stay_meets => first | k_is | rfl | k_exc)
    (case hk_Stay_meets => first | k_is | rfl | k_exc)
    (case ha_Stay_around => first | k_is | rfl | k_exc)
    (case hr_Stay_around => first | k_is | rfl | k_exc)
    (case hl_Stay_around => first | k_is | rfl | k_exc)
    (case hc_Stay_around => first | k_is | rfl | k_exc)
    (case hk_Stay_around => first | k_is | rfl | k_exc)
    (case ha__check_days => first | k_is | rfl | k_exc)
    (case hl__check_days => first | k_is | rfl | k_exc)
    (case hc__check_days => first | k_is | rfl | k_exc)
    (case hk__check_days => first | k_is | rfl | k_exc)
    (case ha__noted => first | k_is | rfl | k_exc)
    (case hl__noted => first | k_is | rfl | k_exc)
    (case hc__noted => first | k_is | rfl | k_exc)
    (case hk__noted => first | k_is | rfl | k_exc)
    (case ha__days => first | k_is | rfl | k_exc)
    (case hl__days => first | k_is | rfl | k_exc)
    (case hc__days => first | k_is | rfl | k_exc)
    (case hk__days => first | k_is | rfl | k_exc)
    (case ha_least_stays => first | k_is | rfl | k_exc)
    (case hl_least_stays => first | k_is | rfl | k_exc)
    (case hc_least_stays => first | k_is | rfl | k_exc)
    (case hk_least_stays => first | k_is | rfl | k_exc)
    (case ha_greatest_stays => first | k_is | rfl | k_exc)
    (case hl_greatest_stays => first | k_is | rfl | k_exc)
    (case hc_greatest_stays => first | k_is | rfl | k_exc)
    (case hk_greatest_stays => first | k_is | rfl | k_exc)
    (case ha_surely_on => first | k_is | rfl | k_exc)
    (case hl_surely_on => first | k_is | rfl | k_exc)
    (case hc_surely_on => first | k_is | rfl | k_exc)
    (case hk_surely_on => first | k_is | rfl | k_exc)
    (case ha__first_pair => first | k_is | rfl | k_exc)
    (case hl__first_pair => first | k_is | rfl | k_exc)
    (case hc__first_pair => first | k_is | rfl | k_exc)
    (case hk__first_pair => first | k_is | rfl | k_exc)
    (case ha_meeting_pairs => first | k_is | rfl | k_exc)
    (case hl_meeting_pairs => first | k_is | rfl | k_exc)
    (case hc_meeting_pairs => first | k_is | rfl | k_exc)
    (case hk_meeting_pairs => first | k_is | rfl | k_exc)
    (case ha__law_draws => first | k_is | rfl | k_exc)
    (case hl__law_draws => first | k_is | rfl | k_exc)
    (case hc__law_draws => first | k_is | rfl | k_exc)
    (case hk__law_draws => first | k_is | rfl | k_exc)
    (case ha__law_take => first | k_is | rfl | k_exc)
    (case hl__law_take => first | k_is | rfl | k_exc)
    (case hc__law_take => first | k_is | rfl | k_exc)
    (case hk__law_take => first | k_is | rfl | k_exc)
    (case ha__law_number => first | k_is | rfl | k_exc)
    (case hl__law_number => first | k_is | rfl | k_exc)
    (case hc__law_number => first | k_is | rfl | k_exc)
    (case hk__law_number => first | k_is | rfl | k_exc)
    (case ha__law_is => first | k_is | rfl | k_exc)
    (case hl__law_is => first | k_is | rfl | k_exc)
    (case hc__law_is => first | k_is | rfl | k_exc)
    (case hk__law_is => first | k_is | rfl | k_exc)
    (case ha__law_true_notes => first | k_is | rfl | k_exc)
    (case hl__law_true_notes => first | k_is | rfl | k_exc)
    (case hc__law_true_notes => first | k_is | rfl | k_exc)
    (case hk__law_true_notes => first | k_is | rfl | k_exc)
    (case ha__law_empty_days => first | k_is | rfl | k_exc)
    (case hl__law_empty_days => first | k_is | rfl | k_exc)
    (case hc__law_empty_days => first | k_is | rfl | k_exc)
    (case hk__law_empty_days => first | k_is | rfl | k_exc)
    (case ha__law_notes => first | k_is | rfl | k_exc)
    (case hl__law_notes => first | k_is | rfl | k_exc)
    (case hc__law_notes => first | k_is | rfl | k_exc)
    (case hk__law_notes => first | k_is | rfl | k_exc)
    (case ha__law_fences => first | k_is | rfl | k_exc)
    (case hl__law_fences => first | k_is | rfl | k_exc)
    (case hc__law_fences => first | k_is | rfl | k_exc)
    (case hk__law_fences => first | k_is | rfl | k_exc)
    (case ha__law_fitting => first | k_is | rfl | k_exc)
    (case hl__law_fitting => first | k_is | rfl | k_exc)
    (case hc__law_fitting => first | k_is | rfl | k_exc)
    (case hk__law_fitting => first | k_is | rfl | k_exc)
    (case ha__law_least => first | k_is | rfl | k_exc)
    (case hl__law_least => first | k_is | rfl | k_exc)
    (case hc__law_least => first | k_is | rfl | k_exc)
    (case hk__law_least => first | k_is | rfl | k_exc)
    (case ha__law_greatest => first | k_is | rfl | k_exc)
    (case hl__law_greatest => first | k_is | rfl | k_exc)
    (case hc__law_greatest => first | k_is | rfl | k_exc)
    (case hk__law_greatest => first | k_is | rfl | k_exc)
    (case ha__law_person => first | k_is | rfl | k_exc)
    (case hl__law_person => first | k_is | rfl | k_exc)
    (case hc__law_person => first | k_is | rfl | k_exc)
    (case hk__law_person => first | k_is | rfl | k_exc)
    (case ha__law_word => first | k_is | rfl | k_exc)
    (case hl__law_word => first | k_is | rfl | k_exc)
    (case hc__law_word => first | k_is | rfl | k_exc)
    (case hk__law_word => first | k_is | rfl | k_exc)
    (case ha__law_words => first | k_is | rfl | k_exc)
    (case hl__law_words => first | k_is | rfl | k_exc)
    (case hc__law_words => first | k_is | rfl | k_exc)
    (case hk__law_words => first | k_is | rfl | k_exc)
    (case ha__law_common => first | k_is | rfl | k_exc)
    (case hl__law_common => first | k_is | rfl | k_exc)
    (case hc__law_common => first | k_is | rfl | k_exc)
    (case hk__law_common => first | k_is | rfl | k_exc)
    (case ha__law_first_pair => first | k_is | rfl | k_exc)
    (case hl__law_first_pair => first | k_is | rfl | k_exc)
    (case hc__law_first_pair => first | k_is | rfl | k_exc)
    (case hk__law_first_pair => first | k_is | rfl | k_exc)
    (case ha__law_item => first | k_is | rfl | k_exc)
    (case hl__law_item => first | k_is | rfl | k_exc)
    (case hc__law_item => first | k_is | rfl | k_exc)
    (case hk__law_item => first | k_is | rfl | k_exc)
    (case ha__law_pairs => first | k_is | rfl | k_exc)
    (case hl__law_pairs => first | k_is | rfl | k_exc)
    (case hc__law_pairs => first | k_is | rfl | k_exc)
    (case hk__law_pairs => first | k_is | rfl | k_exc)
    (case ha_law => first | k_is | rfl | k_exc)
    (case hl_law => first | k_is | rfl | k_exc)
    (case hc_law => first | k_is | rfl | k_exc)
    (case hk_law => first | k_is | rfl | k_exc)
    (case hn_ValueError => first | k_is | rfl | k_exc)
    (case hn_abs => first | k_is | rfl | k_exc)
    (case hn_all => first | k_is | rfl | k_exc)
    (case hn_any => first | k_is | rfl | k_exc)
    (case hn_bool => first | k_is | rfl | k_exc)
    (case hn_enumerate => first | k_is | rfl | k_exc)
    (case hn_int => first | k_is | rfl | k_exc)
    (case hn_isinstance => first | k_is | rfl | k_exc)
    (case hn_len => first | k_is | rfl | k_exc)
    (case hn_list => first | k_is | rfl | k_exc)
    (case hn_max => first | k_is | rfl | k_exc)
    (case hn_min => first | k_is | rfl | k_exc)
    (case hn_range => first | k_is | rfl | k_exc)
    (case hn_sorted => first | k_is | rfl | k_exc)
    (case hn_str => first | k_is | rfl | k_exc)
    (case hn_tuple => first | k_is | rfl | k_exc)
    (case ol_EmptyStay => first | k_is | rfl | k_exc)
    (case or_EmptyStay => decide +kernel)
    (case ol_OutOfRange => first | k_is | rfl | k_exc)
    (case or_OutOfRange => decide +kernel)
    (case hx_sr_Stay_around => first | k_is | rfl | k_exc)
    (case hx_sg_Stay_around => first | k_is | rfl | k_exc)
    (case hx_xsa_EmptyStay => first | k_is | rfl | k_exc)
    (case hx_xga_EmptyStay => first | k_is | rfl | k_exc)
    (case hx_xgg_EmptyStay => first | k_is | rfl | k_exc)
    (case hx_xbe_EmptyStay => first | k_is | rfl | k_exc)
    (case hx_xty_EmptyStay => first | k_is | rfl | k_exc)
    (case hx_xhd_EmptyStay => first | k_is | rfl | k_exc)
    (case hx_xca_EmptyStay => first | k_is | rfl | k_exc)
    (case hx_xmo_EmptyStay => first | k_is | rfl | k_exc)
    (case hx_xti_EmptyStay => first | k_is | rfl | k_exc)
    (case hx_xsa_OutOfRange => first | k_is | rfl | k_exc)
    (case hx_xga_OutOfRange => first | k_is | rfl | k_exc)
    (case hx_xgg_OutOfRange => first | k_is | rfl | k_exc)
    (case hx_xbe_OutOfRange => first | k_is | rfl | k_exc)
    (case hx_xty_OutOfRange => first | k_is | rfl | k_exc)
    (case hx_xhd_OutOfRange => first | k_is | rfl | k_exc)
    (case hx_xca_OutOfRange => first | k_is | rfl | k_exc)
    (case hx_xmo_OutOfRange => first | k_is | rfl | k_exc)
    (case hx_xti_OutOfRange => first | k_is | rfl | k_exc)
    (case hx_xq_NoDays => first | k_is | rfl | k_exc)
    (case hx_xga_NoDays => first | k_is | rfl | k_exc)
    (case hx_xgg_NoDays => first | k_is | rfl | k_exc)
    (case hx_xbe_NoDays => first | k_is | rfl | k_exc)
    (case hx_xty_NoDays => first | k_is | rfl | k_exc)
    (case hx_xhd_NoDays => first | k_is | rfl | k_exc)
    (case hx_xca_NoDays => first | k_is | rfl | k_exc)
    (case hx_xmo_NoDays => first | k_is | rfl | k_exc)
    (case hx_cn_ => first | k_is | rfl | k_exc)
    (case hx_ct_ => first | k_is | rfl | k_exc)
    (case hx_ymk_Stay => first | k_is | rfl | k_exc)
    (case hx_ypg_Stay => first | k_is | rfl | k_exc)
    (case hx_yhd_Stay => first | k_is | rfl | k_exc)
    (case hx_ypo_Stay => first | k_is | rfl | k_exc)
    (case hx_ysa_Stay => first | k_is | rfl | k_exc)
    (case hx_ysf_Stay => first | k_is | rfl | k_exc)
    (case hx_yca_Stay => first | k_is | rfl | k_exc)
    (case hx_ymo_Stay => first | k_is | rfl | k_exc)
    (case hx_e_EmptyStay_come => first | k_is | rfl | k_exc)
    (case hx_e_EmptyStay_go => first | k_is | rfl | k_exc)
    (case hx_e_OutOfRange_value => first | k_is | rfl | k_exc)
    (case hx_zo_Stay_Stay => first | k_is | rfl | k_exc)
    (case hx_zo_Stay_bool => first | k_is | rfl | k_exc)
    (case hx_zo_Stay_int => first | k_is | rfl | k_exc)
    (case hx_zo_Stay_str => first | k_is | rfl | k_exc)
    (case hx_zo_Stay_tuple => first | k_is | rfl | k_exc)
    (case hx_no_Stay_come => first | k_is | rfl | k_exc)
    (case hx_no_Stay_go => first | k_is | rfl | k_exc)
    (case hx_nit => first | k_is | rfl | k_exc)
