import PyProof.Rows.All
import Wide.All
import OpenK.AllK
import Wide.FinOn
import HandS.ForExc
import HandS.Comp
import HandS.Wide
import HandS.IsInst
import HandS.Property
import HandS.FStr
import HandS.MakeKw
import HandS.MakeKwOnly
import HandS.ExcInit
import HandS.ExcField
import HandS.ExcIs
import HandS.HotCalls
import HandS.OwnEq
import HandS.Evl
import KE.KCallOwn
import HandS.Gcd
import HandS.Walk
import KE.GoesMore
import KE.GoesEnum
import KE.GoesNew
import HandS.ExcOwn
import HandS.Dict
import HandS.Text
import HandS.List
import HandS.Conv
import PyProof.StrOps2
import HandS.Star
import HandS.Sort
import HandS.Style
import HandS.TupAny
import HandS.Deep
import HandS.Flow
import KE.GoesComp
import HandS.TryOnly
import HandS.TryMany
import HandS.Codes
import HandS.ClsMeth
import HandS.SortRule
import HandS.SortInts
import HandS.DictComp
import KE.LtSeq
import HandS.GenList
import HandS.SortKw
import HandS.SetBool
import HandS.Strs
import HandS.SetFor
import HandS.Iter
import PySem.Challenge.RW_fittingpasts_k06_remainder_tables
set_option Elab.async false
set_option linter.all false
set_option maxRecDepth 100000
set_option maxHeartbeats 4000000
/-! own rules: operators that a class of the program defines -/
namespace XR
open PySem PySem.Spec PyProof.Rows L2
section
variable {X : Cx} {CX : CXT} {k : Nat} {C f : Addr} {fd : FuncData} {ps : List Str} {sp : Sp} {E : XK}
/-- the callee runs, somewhere below the body -/
theorem run_at {A : Around} {pins : List (Addr × Obj)} {σ : L2.St} {H : Hp} {s : Shared} {Q : VK} {us : List Value} {vs : List V} (F : FnOk X.prog X.w X.K X.mg X.base CX k f fd ps sp) (hr : Room k A) (hA : A.frames = X.A.frames) (hb : Binds X.K fd ps []) (hx : PassesAt CX X σ E)
    (I : Inv X pins σ H s) (r : Vals vs us) (h : sp vs H Q E) : wpAny (model X.prog X.w) A (call (.ref f) us) (EP X pins σ Q) X.xe s := by
  have hl : us.length = ps.length := by rw [← r.length]; exact F.len _ _ _ _ h
  have e0 : Env0 X.prog X.w X.K X.mg X.base A X.stack s H := by
    have e := I.env0
    exact ⟨by rw [hA]; exact e.frames, e.mod, e.bs, e.bsz, e.funs, e.frf, e.hok, e.bare⟩
  have b := hb s us I.kIn (by rw [List.append_nil]; exact hl)
  rw [List.append_nil] at b
  refine wpAny_call (codeAny_mono (F.run A X.stack s H ⟨us, []⟩ us vs Q E hr e0 b r h) fun r s' hq => ?_)
  cases r with
  | error e => exact hx pins H s e s' I hq
  | ok fl =>
    cases fl with
    | ret u => exact I.after hq
    | next => exact False.elim hq
    | brk => exact False.elim hq
    | cont => exact False.elim hq
/-- an instance of the class at C -/
theorem inst_at {pins : List (Addr × Obj)} {σ : L2.St} {H : Hp} {s : Shared} {a dx : Addr} {fs : List (Str × V)} (I : Inv X pins σ H s) (ha : H a = some (.ins C dx fs)) : ∃ od, PySem.W.InstAt s.heap a (PySem.W.instObj C dx) C (some od) := by
  obtain ⟨mA, J, _⟩ := ins_get I.hok ha
  obtain ⟨od, J, _⟩ := J.look
  exact ⟨od, J⟩
theorem back_of {pins : List (Addr × Obj)} {σ : L2.St} {Q : VK} {v : Value} {s' : Shared} (h : EP X pins σ Q v s') : PySem.W.CmpBack (EP X pins σ Q) v s' := by
  obtain ⟨x, H', I', r, q⟩ := h
  have keep : EP X pins σ Q v s' := ⟨x, H', I', r, q⟩
  cases x with
  | non =>
    obtain rfl : v = Value.none := r
    exact keep
  | bl _ =>
    obtain rfl : v = Value.bool _ := r
    exact keep
  | int _ =>
    obtain ⟨t, rfl⟩ := r
    exact keep
  | str _ =>
    obtain ⟨t, rfl⟩ := r
    exact keep
  | byt _ =>
    obtain ⟨t, rfl⟩ := r
    exact keep
  | flt _ =>
    obtain ⟨t, rfl⟩ := r
    exact keep
  | ref _ =>
    obtain rfl : v = Value.ref _ := r
    exact keep
  | ty _ =>
    obtain rfl : v = Value.type _ := r
    exact keep

/-! ### a op b -/
structure OwnB (K : PySem.W.Frag) (C f : Addr) (op : Operator) : Prop where
  sf : PySem.W.selfFirst K C = true
  hs : PySem.W.findIn K (.ref C) (PySem.dunder op.info.2) = some (some (.ref f))
  hf : PySem.W.isFn K (.ref f) = true
  hr : PySem.W.findIn K (.ref C) (PySem.dunderR op.info.2) = some none
/-- .. an int on the right -/
structure OwnBI (K : PySem.W.Frag) (C : Addr) (op : Operator) : Prop where
  h1 : ∃ fo, PySem.W.findIn K (.type "int") (PySem.dunder op.info.2) = some fo
  h2 : ∃ ro, PySem.W.findIn K (.type "int") (PySem.dunderR op.info.2) = some ro
  sub : PySem.W.subIn K (.type "int") (.ref C) = some false
/-- by the left one's own method: an int or an instance of the same class on the right -/
def rOwnI (C : Addr) (sp : Sp) (E : XK) : R2 := fun x y H Q => ∃ a dx fs i, x = .ref a ∧ y = .int i ∧ H a = some (.ins C dx fs) ∧ sp [.ref a, .int i] H Q E
def rOwnC (C : Addr) (sp : Sp) (E : XK) : R2 := fun x y H Q => ∃ a b dx dy fs gs, x = .ref a ∧ y = .ref b ∧ H a = some (.ins C dx fs) ∧ H b = some (.ins C dy gs) ∧ sp [.ref a, .ref b] H Q E
theorem ownI {op : Operator} {pins : List (Addr × Obj)} {s : Shared} {σ : L2.St} {H : Hp} {x y : V} {v u : Value} {Q : VK} (O : OwnB X.K C f op) (OI : OwnBI X.K C op) (F : FnOk X.prog X.w X.K X.mg X.base CX k f fd ps sp) (hr : Room k X.A) (hb : Binds X.K fd ps []) (hx : PassesAt CX X σ E)
    (I : Inv X pins σ H s) (rx : RelV x v) (ry : RelV y u) (hq : rOwnI C sp E x y H Q) : wpAny (model X.prog X.w) X.A (binaryOp op v u) (EP X pins σ Q) X.xe s := by
  obtain ⟨a, dx, fs, i, rfl, rfl, ha, q⟩ := hq
  cases rx
  obtain ⟨t, rfl⟩ := ry
  obtain ⟨od, J⟩ := inst_at I ha
  obtain ⟨m, hF⟩ := I.fr
  obtain ⟨fo, h1⟩ := OI.h1
  obtain ⟨ro, h2⟩ := OI.h2
  exact PySem.W.ksp_binT (T := "int") hF I.ok.mod.kin J rfl O.sf O.hs O.hf O.hr (.inl rfl) h1 h2 OI.sub
    (thn (run_at (vs := [.ref a, .int i]) F hr rfl hb hx I (.cons rfl (.cons ⟨t, rfl⟩ .nil)) q) fun _ _ z => back_of z)
theorem ownC {op : Operator} {pins : List (Addr × Obj)} {s : Shared} {σ : L2.St} {H : Hp} {x y : V} {v u : Value} {Q : VK} (O : OwnB X.K C f op) (F : FnOk X.prog X.w X.K X.mg X.base CX k f fd ps sp) (hr : Room k X.A) (hb : Binds X.K fd ps []) (hx : PassesAt CX X σ E)
    (I : Inv X pins σ H s) (rx : RelV x v) (ry : RelV y u) (hq : rOwnC C sp E x y H Q) : wpAny (model X.prog X.w) X.A (binaryOp op v u) (EP X pins σ Q) X.xe s := by
  obtain ⟨a, b, dx, dy, fs, gs, rfl, rfl, ha, hb', q⟩ := hq
  cases rx
  cases ry
  obtain ⟨od, J⟩ := inst_at I ha
  obtain ⟨od', J'⟩ := inst_at I hb'
  obtain ⟨m, hF⟩ := I.fr
  exact PySem.W.binop_K hF I.ok.mod.kin J J'.type O.sf O.hs O.hf
    (thn (run_at (vs := [.ref a, .ref b]) F hr rfl hb hx I (.cons rfl (.cons rfl .nil)) q) fun _ _ z => back_of z)
theorem at_of_passes {σ : L2.St} (hx : Passes CX X E) : PassesAt CX X σ E := fun pins H s e s' I c => hx pins σ H s e s' I c
theorem op_ownI {op : Operator} (O : OwnB X.K C f op) (OI : OwnBI X.K C op) (F : FnOk X.prog X.w X.K X.mg X.base CX k f fd ps sp) (hr : Room k X.A) (hb : Binds X.K fd ps []) (hx : Passes CX X E) : OpR X (binaryOp op) (rOwnI C sp E) :=
  fun pins s σ H x y v u Q I rx ry hq => ownI O OI F hr hb (at_of_passes hx) I rx ry hq
theorem op_ownC {op : Operator} (O : OwnB X.K C f op) (F : FnOk X.prog X.w X.K X.mg X.base CX k f fd ps sp) (hr : Room k X.A) (hb : Binds X.K fd ps []) (hx : Passes CX X E) : OpR X (binaryOp op) (rOwnC C sp E) :=
  fun pins s σ H x y v u Q I rx ry hq => ownC O F hr hb (at_of_passes hx) I rx ry hq
/-- .. in a try's body -/
def tOpS (r : L2.St → R2) (ta tb : TE) : TE := fun σ H Q => ta σ H fun x H1 => tb σ H1 fun y H2 => r σ x y H2 Q
theorem pe_opCS {op : Operator} {a b : Expr} {pos : Pos} {ta tb : TE} {ES : L2.St → XK} (O : OwnB X.K C f op) (F : FnOk X.prog X.w X.K X.mg X.base CX k f fd ps sp) (hr : Room k X.A) (hb : Binds X.K fd ps []) (hx : ∀ σ, PassesAt CX X σ (ES σ)) (ha : PE X a ta) (hb2 : PE X b tb) :
    PE X (.BinOp a op b pos) (tOpS (fun σ => rOwnC C sp (ES σ)) ta tb) := by
  refine ⟨fun pins s σ H Q I h => ?_⟩
  exact (wpAny_BinOp (binT ha hb2 I (R := fun x y H2 => rOwnC C sp (ES σ) x y H2 Q) (by exact h) fun v u s1 x y H1 I1 r1 r2 q => ownC O F hr hb (hx σ) I1 r1 r2 q))
/-! ### x in o, x not in o -/
structure OwnM (K : PySem.W.Frag) (C f : Addr) (name : Str) : Prop where
  hs : PySem.W.findIn K (.ref C) name = some (some (.ref f))
  hf : PySem.W.isFn K (.ref f) = true
def rInOwn (C : Addr) (sp : Sp) (E : XK) (neg : Bool) : R2 := fun x y H Q => ∃ a dx fs, y = .ref a ∧ H a = some (.ins C dx fs) ∧ sp [.ref a, x] H (fun v H' => ∃ b, v = .bl b ∧ Q (.bl (if neg then !b else b)) H') E
theorem op_in_own (O : OwnM X.K C f "__contains__") (F : FnOk X.prog X.w X.K X.mg X.base CX k f fd ps sp) (hr : Room k X.A) (hb : Binds X.K fd ps []) (hx : Passes CX X E) : OpR X (compareOp .In) (rInOwn C sp E false) := by
  intro pins s σ H x y v u Q I rx ry hq
  obtain ⟨a, dx, fs, rfl, ha, q⟩ := hq
  cases ry
  obtain ⟨od, J⟩ := inst_at I ha
  obtain ⟨m, hF⟩ := I.fr
  refine PySem.W.in_K hF I.ok.mod.kin J O.hs O.hf (thn (run_at (vs := [.ref a, x]) F hr rfl hb (at_of_passes hx) I (.cons rfl (.cons rx .nil)) q) fun r s' z => ?_)
  obtain ⟨w', H', I', rw', b, rfl, q2⟩ := z
  cases rw'
  exact wpAny_truthy_bool ⟨.bl b, H', I', rfl, q2⟩
theorem op_notIn_own (O : OwnM X.K C f "__contains__") (F : FnOk X.prog X.w X.K X.mg X.base CX k f fd ps sp) (hr : Room k X.A) (hb : Binds X.K fd ps []) (hx : Passes CX X E) : OpR X (compareOp .NotIn) (rInOwn C sp E true) := by
  intro pins s σ H x y v u Q I rx ry hq
  obtain ⟨a, dx, fs, rfl, ha, q⟩ := hq
  cases ry
  obtain ⟨od, J⟩ := inst_at I ha
  obtain ⟨m, hF⟩ := I.fr
  refine PySem.W.notIn_K hF I.ok.mod.kin J O.hs O.hf (thn (run_at (vs := [.ref a, x]) F hr rfl hb (at_of_passes hx) I (.cons rfl (.cons rx .nil)) q) fun r s' z => ?_)
  obtain ⟨w', H', I', rw', b, rfl, q2⟩ := z
  cases rw'
  exact wpAny_truthy_bool ⟨.bl (!b), H', I', rfl, q2⟩
/-! ### a == b, a != b by the class's __eq__ (no __ne__ of its own) -/
structure OwnE (K : PySem.W.Frag) (C f : Addr) : Prop where
  hs : PySem.W.findIn K (.ref C) "__eq__" = some (some (.ref f))
  hf : PySem.W.isFn K (.ref f) = true
  hn : PySem.W.findIn K (.ref C) "__ne__" = some (some (.builtin "object.__ne__"))
  ob : PySem.W.mroIn K C (.type "object") = some true
def rEqOwn (C : Addr) (sp : Sp) (E : XK) (neg : Bool) : R2 := fun x y H Q => ∃ a b dx dy fs gs, x = .ref a ∧ y = .ref b ∧ H a = some (.ins C dx fs) ∧ H b = some (.ins C dy gs) ∧ sp [.ref a, .ref b] H (fun v H' => ∃ c, v = .bl c ∧ Q (.bl (if neg then !c else c)) H') E
theorem op_eq_own (O : OwnE X.K C f) (F : FnOk X.prog X.w X.K X.mg X.base CX k f fd ps sp) (hr : Room k X.A) (hb : Binds X.K fd ps []) (hx : Passes CX X E) : OpR X (compareOp .Eq) (rEqOwn C sp E false) := by
  intro pins s σ H x y v u Q I rx ry hq
  obtain ⟨a, b, dx, dy, fs, gs, rfl, rfl, ha, hb', q⟩ := hq
  cases rx
  cases ry
  obtain ⟨od, J⟩ := inst_at I ha
  obtain ⟨od', J'⟩ := inst_at I hb'
  obtain ⟨m, hF⟩ := I.fr
  refine PySem.W.cmp_K (op := .Eq) (tb := .ref C) hr.units0 hF I.ok.mod.kin J J'.type (by simp [PySem.W.notFirst]) O.hs O.hf ?_
  refine thn (run_at (vs := [.ref a, .ref b]) F hr rfl hb (at_of_passes hx) I (.cons rfl (.cons rfl .nil)) q) fun _ _ z => ?_
  obtain ⟨w', H', I', rw', c, rfl, q2⟩ := z
  cases rw'
  exact (⟨.bl c, H', I', rfl, q2⟩ : EP X pins σ Q (.bool c) _)
theorem objNe_entry {prog : Program} {w : World} {A : Around} {E : Value → Shared → Prop} {K : PySem.W.Frag} {x C f : Addr} {ox : Obj} {od : Option Obj} {b : Value} {s : Shared} {Q : PySem.Fin → Shared → Prop} (hu : A.units < cLine) (Xk : K.In s.heap) (I : PySem.W.InstAt s.heap x ox C od)
    (hs : PySem.W.findIn K (.ref C) "__eq__" = some (some (.ref f))) (hf : PySem.W.isFn K (.ref f) = true)
    (h : wpAny (model prog w) A (call (.ref f) [.ref x, b]) (fun v s' => ∃ c, v = .bool c ∧ Q (.done (.ret (.bool (!c)))) s') E s) :
    wpAny (model prog w) A (Builtin.«object.__ne__» ⟨[.ref x, b], []⟩) Q E s := by
  unfold Builtin.«object.__ne__»
  refine wpAny_bind (wpAny_of_eq (a := ((Value.ref x : Value), [b])) (by first | rfl | (simp only [Builtin.slotArgs]; rfl)) ?_)
  refine wpAny_bind (wpAny_cRoomFor hu ?_)
  refine wpAny_bind (PySem.W.ifBound_K Xk I hs hf (thn h fun v s' z => ?_))
  obtain ⟨c, rfl, q⟩ := z
  exact wpAny_bind (wpAny_truthy_bool (wpAny_pure q))
theorem cmp_ne {prog : Program} {w : World} {A : Around} {E : Value → Shared → Prop} {K : PySem.W.Frag} {x C f : Addr} {ox : Obj} {od : Option Obj} {b : Value} {s : Shared} {Q : Value → Shared → Prop} (hu : A.units + 1 < cLine) (Xk : K.In s.heap) (I : PySem.W.InstAt s.heap x ox C od)
    (hb : PySem.W.Looks (model prog w) s.heap (typeOf b) (.ref C)) (hn : PySem.W.findIn K (.ref C) "__ne__" = some (some (.builtin "object.__ne__"))) (ob : PySem.W.mroIn K C (.type "object") = some true)
    (hs : PySem.W.findIn K (.ref C) "__eq__" = some (some (.ref f))) (hf : PySem.W.isFn K (.ref f) = true)
    (h : wpAny (model prog w) A.in1 (call (.ref f) [.ref x, b]) (fun v s' => ∃ c, v = .bool c ∧ Q (.bool (!c)) s') E s) :
    wpAny (model prog w) A (richCompare .NotEq (.ref x) b) Q E s := by
  have sub : PySem.W.Looks (model prog w) s.heap (isInstance (.ref x) (.type "object")) true := I.type.andThen (PySem.W.looks_mroIn Xk ob)
  have callN : wpAny (model prog w) A (call (.builtin "object.__ne__") [.ref x, b]) (fun v s' => ∃ c, v = .bool c ∧ Q v s') E s := by
    refine wpAny_call (codeAny_call_builtin PySem.F.cmp_object.ne.plain PySem.F.cmpEntry_ne ?_)
    refine @PySem.W.check_slot (model prog w) _ _ s "object.__ne__" "object" "__ne__" (.ref x) [b] [] _ PySem.F.cmpKind_ne PySem.F.cmpSplit_ne sub (PySem.F.cmpArgs_ne _ _) ?_
    refine objNe_entry (A := A.in1) (by show A.units + 1 < cLine; exact hu) Xk I hs hf (thn h fun v s' z => ?_)
    obtain ⟨c, rfl, q⟩ := z
    exact ⟨c, rfl, ⟨!c, rfl, q⟩⟩
  have L1 := PySem.W.looks_findIn (M := model prog w) Xk hn
  have one : wpAny (model prog w) A (tryCompare (.ref x) "__ne__" b) (fun r s' => ∃ v, r = some v ∧ Q v s') E s := by
    unfold tryCompare
    refine wpAny_bind ?_
    simp only [callSpecialIfBound?, bindSpecialIfBound?]
    refine wpAny_holding (wpAny_bind (wpAny_bind (wpAny_bind (I.type.here (L1.here ?_)))))
    simp only [PySem.F.cmp_object.ne.bind]
    refine wpAny_bind (wpAny_askSetting (wpAny_ite ?_))
    have go : wpAny (model prog w) A (do
        let r ← call (.builtin "object.__ne__") ([.ref x] ++ [b])
        pure (some r)) (fun a s' => wpAny (model prog w) A (match a with
          | some Value.notImplemented => pure none
          | none => pure none
          | some v => pure (some v)) (fun r s' => ∃ v, r = some v ∧ Q v s') E s') E s := by
      refine wpAny_bind (thn callN fun v s' z => ?_)
      obtain ⟨c, rfl, q⟩ := z
      exact wpAny_pure (wpAny_pure ⟨_, rfl, q⟩)
    split
    · exact wpAny_bind (wpAny_pure (wpAny_pure (by exact go)))
    · refine wpAny_tryCatch ?_
      exact wpAny_bind (wpAny_pure (wpAny_pure (by exact go)))
  have hu0 : A.units < cLine := Nat.lt_of_succ_lt hu
  unfold richCompare
  simp only [oneThing_ref]
  refine wpAny_holding (wpAny_bind (wpAny_cRoomFor hu0 ?_))
  refine wpAny_bind (I.type.here (wpAny_bind (hb.here ?_)))
  split
  · rename_i q
    simp at q
  · refine wpAny_bind (wpAny_pure ?_)
    simp only [Bool.false_eq_true, if_false]
    refine wpAny_bind (wpAny_mono one (fun r s' z => ?_) fun _ _ e => e)
    obtain ⟨v, rfl, hq⟩ := z
    exact wpAny_pure hq
theorem op_ne_own (O : OwnE X.K C f) (F : FnOk X.prog X.w X.K X.mg X.base CX k f fd ps sp) (hr : Room (k + 1) X.A) (hb : Binds X.K fd ps []) (hx : Passes CX X E) : OpR X (compareOp .NotEq) (rEqOwn C sp E true) := by
  intro pins s σ H x y v u Q I rx ry hq
  obtain ⟨a, b, dx, dy, fs, gs, rfl, rfl, ha, hb', q⟩ := hq
  cases rx
  cases ry
  obtain ⟨od, J⟩ := inst_at I ha
  obtain ⟨od', J'⟩ := inst_at I hb'
  refine cmp_ne (by have := hr.units; omega) I.kIn J J'.type O.hn O.ob O.hs O.hf ?_
  refine thn (run_at (A := X.A.in1) (vs := [.ref a, .ref b]) F hr.in1 rfl hb (at_of_passes hx) I (.cons rfl (.cons rfl .nil)) q) fun _ _ z => ?_
  obtain ⟨w', H', I', rw', c, rfl, q2⟩ := z
  cases rw'
  exact ⟨c, rfl, (⟨.bl (!c), H', I', rfl, q2⟩ : EP X pins σ Q (.bool (!c)) _)⟩
/-! ### str(o) by the class's __str__ -/
def rStrOwn (C : Addr) (sp : Sp) (E : XK) : List V → Hp → VK → Prop := fun vs H Q => ∃ a dx fs, vs = [.ref a] ∧ H a = some (.ins C dx fs) ∧ sp [.ref a] H (fun v H' => ∃ z, v = .str z ∧ Q v H') E
theorem call_str_own (O : OwnM X.K C f "__str__") (F : FnOk X.prog X.w X.K X.mg X.base CX k f fd ps sp) (hr : Room (k + 2) X.A) (hb : Binds X.K fd ps []) (hx : Passes CX X E) : CallR X (.type "str") (rStrOwn C sp E) := by
  intro pins s σ H xs us Q I r hq
  obtain ⟨a, dx, fs, rfl, ha, q⟩ := hq
  cases r with
  | cons rx rr =>
    cases rr
    cases rx
    obtain ⟨od, J⟩ := inst_at I ha
    have hr2 : Room k X.A.in1.in1 := hr.in1.in1
    refine PySem.W.kso_call hr2.units0 I.kIn J O.hs O.hf ?_
    refine thn (run_at (A := X.A.in1.in1) (vs := [.ref a]) F hr2 rfl hb (at_of_passes hx) I (.cons rfl .nil) q) fun _ _ z => ?_
    obtain ⟨w', H', I', rw', z, rfl, q2⟩ := z
    obtain ⟨t, rfl⟩ := rw'
    exact (⟨.str z, H', I', ⟨t, rfl⟩, q2⟩ : EP X pins σ Q (.str z t) _)
/-! ### -o -/
def rNegOwn (C : Addr) (sp : Sp) (E : XK) : V → Hp → VK → Prop := fun x H Q => ∃ a dx fs, x = .ref a ∧ H a = some (.ins C dx fs) ∧ sp [.ref a] H Q E
theorem un_neg_own (O : OwnM X.K C f "__neg__") (F : FnOk X.prog X.w X.K X.mg X.base CX k f fd ps sp) (hr : Room k X.A) (hb : Binds X.K fd ps []) (hx : Passes CX X E) : UnR X (unaryOp .USub) (rNegOwn C sp E) := by
  intro pins s σ H x v Q I rx hq
  obtain ⟨a, dx, fs, rfl, ha, q⟩ := hq
  cases rx
  obtain ⟨od, J⟩ := inst_at I ha
  obtain ⟨m, hF⟩ := I.fr
  exact PySem.W.ksp_neg hF I.ok.mod.kin J O.hs O.hf (run_at (vs := [.ref a]) F hr rfl hb (at_of_passes hx) I (.cons rfl .nil) q)
end
end XR
/-! ### isinstance of a caught error that has a dict of its own -/
namespace XR
open PySem PySem.Spec PySem.Calls PyProof.Rows PySem.W
section
variable {prog : Program} {w : World} {A : Around} {E : Value → Shared → Prop} {s : Shared} {K : Frag} {x D : Addr} {ox od : Obj}
/-- what a class of errors must say, so that isinstance reads its instances rightly (L2.ExcC's facts) -/
abbrev Asks (K : Frag) (D : Addr) : Prop := L2.ExcC K D
theorem excD_class {Q : Option Value → Shared → Prop} (c : Asks K D) (X : K.In s.heap)
    (I : InstAt s.heap x ox D (some od)) (h : Q (some (.ref D)) { s with toks := s.toks + 1 }) :
    wpAny (model prog w) A (getAttr? (.ref x) "__class__") Q E s := by
  have isC : (clsIn K D).isSome = true := by
    obtain ⟨cd, hc, _⟩ := any_some c.hd
    rw [hc] <;> rfl
  have fnd := looks_find (M := model prog w) X I (findObj_data isC c.ha c.hn c.ht)
  obtain ⟨hp, g, d, t, os⟩ := s
  have lt := I.type (M := model prog w)
  have la := looks_findIn (M := model prog w) X c.hg
  have lb := looks_findIn (M := model prog w) X c.hk
  have isB : Looks (model prog w) hp (isInstance (.ref x) (.type "BaseException")) true :=
    lt.andThen (looks_subIn X c.hs)
  have z0 : (false && onTheHeap (Value.builtin "BaseException.__getattribute__")) = false := by
    rfl
  have z2 : (Value.builtin "BaseException.__getattribute__" ==
      Value.builtin "object.__getattribute__") = false := by decide +kernel
  have z1 : (onTheHeap (Value.ref D) && (Value.builtin "BaseException.__getattribute__" ==
      Value.builtin "object.__getattribute__")) = false := by rw [z2, Bool.and_false]
  unfold getAttr? getAttrBy? getAttrBy
  refine wpAny_bind (wpAny_mkText ?_)
  refine wpAny_bind (wpAny_attempt ?_)
  refine wpAny_holding (wpAny_bind (lt.at ?_))
  refine wpAny_bind (la.at ?_)
  show wpAny _ _ (if (onTheHeap (Value.ref D) && (Value.builtin "BaseException.__getattribute__" ==
    Value.builtin "object.__getattribute__")) = true then _ else _) _ _ _
  rw [z1, if_neg (by decide)]
  unfold getAttrByItsOwn hookBefore
  refine wpAny_bind ?_
  rw [if_pos (by rfl : onTheHeap (Value.ref D) = true)]
  refine lb.at (wpAny_bind (wpAny_attempt ?_))
  refine wpAny_holding ?_
  unfold callGetattribute
  rw [z0, if_neg (by decide)]
  unfold boundAndCalled
  rw [PySem.F.excAttr_ValueError.ga.bind]
  refine wpAny_bind (wpAny_pure ?_)
  show wpAny _ _ (call (.builtin "BaseException.__getattribute__")
    [.ref x, .str "__class__" t]) _ _ _
  refine wpAny_call (codeAny_call_builtin PySem.F.excAttr_ValueError.ga.plain
    PySem.F.entry_bexc_ga ?_)
  refine @check_slot (model prog w) _ _ ⟨hp, g, d, t + 1, os⟩ "BaseException.__getattribute__" "BaseException"
    "__getattribute__" (.ref x) [.str "__class__" t] [] _ (by decide +kernel) (by decide +kernel) isB
    (PySem.F.args_bexc_ga _ _) ?_
  unfold Builtin.«object.__getattribute__»
  refine wpAny_bind (wpAny_of_eq (a := ((Value.ref x : Value), [Value.str "__class__" t]))
    (by first | rfl | (simp only [Builtin.slotArgs] <;> rfl)) ?_)
  refine wpAny_bind (wpAny_pure ?_)
  refine wpAny_bind (lt.at (wpAny_bind (fnd.at ?_)))
  show wpAny _ _ (holding [Value.builtin "object.__class__"]
    (call (.builtin "getset_descriptor.__get__") [.builtin "object.__class__", .ref x, .ref D]) >>= ret) _ _ _
  refine wpAny_bind (wpAny_holding ?_)
  refine wpAny_call (class_get (s := ⟨hp, g, d, t + 1, os⟩) (ox := ox) (od := some od) X I c.hm ?_)
  refine wpAny_pure ?_
  show wpAny _ _ (handedOut (.ref D)) _ _ _
  rw [handedOut_of (v := .ref D) (by rfl)]
  first
    | exact wpAny_pure (wpAny_bind (wpAny_pure (wpAny_pure h)))
    | exact wpAny_pure (wpAny_pure h)
    | exact wpAny_pure h
theorem kit_excD (c : Asks K D) : KitX K (.ref x) (.ref D) (fun h => InstAt h x ox D (some od)) where
  ty := fun _ _ _ i => i.type
  it := fun m h X' i => by
    obtain ⟨cd, hc, _⟩ := any_some c.hd
    unfold clsIn at hc
    split at hc
    next c' d' cd' sl' ho =>
      intro A' Q' E' s' k q
      unfold isType loadHead
      refine wpAny_bind (wpAny_loadPart (k _ _ (X' _ _ ho)) ?_)
      exact wpAny_pure q
    next => cases hc
  ne := fun h tp dd its n sl X' htp => by
    obtain ⟨cd, hc, _⟩ := any_some c.hd
    refine Bool.eq_false_iff.mpr fun q => ?_
    obtain rfl : D = tp := Value.ref.inj (beq_iff_eq.mp q)
    unfold clsIn at hc
    split at hc
    next c' d' cd' sl' ho => cases (X' _ _ ho).symm.trans htp
    next => cases hc
  ca := fun X' i q => excD_class c X' i q
end
end XR
namespace XR
open PySem PySem.Spec PyProof.Rows L2
/-! ### a caught error, pinned: isinstance, fields -/
section
variable {X : Cx} {a : Addr} {oe : Obj} {cls : Value} {d : Option Addr}
theorem pinned_inst {pins : List (Addr × Obj)} {s : Shared} {σ : L2.St} {H : Hp} {D dd : Addr} {fs : List (Str × V)}
    (hp : (a, oe) ∈ X.pn) (hz : Zc (.ref D) (some dd) oe) (hf : ∃ vs, oe.data = .fields vs) (I : Inv X pins σ H s)
    (e : H dd = some (.xd fs)) : ∃ od, PySem.W.InstAt s.heap a oe D (some od) ∧ ∃ mA : Str → Option Value,
      (∀ n, PySem.W.lookIn n od = some (mA n)) ∧ ∀ n, RelO (fs.lookup n) (mA n) := by
  have at_ := (I.pin (a, oe) (List.mem_append_left _ hp)).1
  obtain ⟨vs, hv⟩ := hf
  have ok : ObjOk X.prog X.w H s.heap dd (.xd fs) := I.hok dd _ e
  obtain ⟨mA, hns, rel⟩ := ok
  obtain ⟨od, ho, hl⟩ := lookIn_ns hns
  refine ⟨od, ⟨at_, hz.1, ?_, ?_⟩, mA, hl, rel⟩
  · unfold PySem.W.notCls
    rw [hv] <;> rfl
  · rw [hz.2]
    exact ho
def rIsP (K : PySem.W.Frag) (cls : Value) (d : Option Addr) (a : Addr) : List V → Hp → VK → Prop := fun xs H Q =>
  ∃ (D dd : Addr) (fs : List (Str × V)) (c : V) (cv : Value) (b : Bool), cls = .ref D ∧ d = some dd ∧ H dd = some (.xd fs) ∧
    Asks K D ∧ xs = [.ref a, c] ∧ ClsV c cv ∧ PySem.W.kitOne K (.ref D) cv = some b ∧ Q (.bl b) H
def rIsPT (K : PySem.W.Frag) (cls : Value) (d : Option Addr) (a : Addr) : List V → Hp → VK → Prop := fun xs H Q =>
  ∃ (D dd tp : Addr) (fs : List (Str × V)) (cs : List V) (us : List Value) (b : Bool), cls = .ref D ∧ d = some dd ∧ H dd = some (.xd fs) ∧
    Asks K D ∧ xs = [.ref a, .ref tp] ∧ H tp = some (.tup cs) ∧ Paired ClsV cs us ∧ PySem.W.kitAny K (.ref D) us = some b ∧ Q (.bl b) H
theorem call_isP (hp : (a, oe) ∈ X.pn) (hz : Zc cls d oe) (hf : ∃ vs, oe.data = .fields vs) :
    CallR X (.builtin "isinstance") (rIsP X.K cls d a) := by
  intro pins s σ H xs us Q I r h
  obtain ⟨D, dd, fs, c, cv, b, rfl, rfl, e, as, rfl, kc, ek, q⟩ := h
  obtain ⟨u1, u2, rfl, r1, r2⟩ := vals2 r
  obtain rfl : u1 = Value.ref a := r1
  obtain rfl := kc.eq r2
  obtain ⟨od, J, _⟩ := pinned_inst hp hz hf I e
  exact PySem.W.kia_one (kit_excD as) I.kIn J ek (fun z => nomatch z) fun tk => ⟨.bl b, H, I.tok tk, rfl, q⟩
theorem call_isPT (hp : (a, oe) ∈ X.pn) (hz : Zc cls d oe) (hf : ∃ vs, oe.data = .fields vs) :
    CallR X (.builtin "isinstance") (rIsPT X.K cls d a) := by
  intro pins s σ H xs us Q I r h
  obtain ⟨D, dd, tp, fs, cs, ws, b, rfl, rfl, e, as, rfl, hT, kc, ek, q⟩ := h
  obtain ⟨u1, u2, rfl, r1, r2⟩ := vals2 r
  obtain rfl : u1 = Value.ref a := r1
  obtain rfl : u2 = Value.ref tp := r2
  obtain ⟨od, J, _⟩ := pinned_inst hp hz hf I e
  have okT : ObjOk X.prog X.w H s.heap tp (.tup cs) := I.hok tp _ hT
  obtain ⟨_, its, rv, ⟨oc, od2, dt, sl⟩, h1, h2, n, h3⟩ := okT
  dsimp only at h2 h3
  subst h2 h3
  obtain rfl := ClsV.all kc rv
  exact PySem.W.kia_tup (kit_excD as) I.kIn J h1 ek (fun z => nomatch z) fun tk => ⟨.bl b, H, I.tok tk, rfl, q⟩
/-- e.n, e the pinned error -/
def tPf (K : PySem.W.Frag) (a : Addr) (cls : Value) (d : Option Addr) (n : Str) (te : TE) : TE := fun σ H Q => te σ H fun x H1 =>
  ∃ (D dd : Addr) (fs : List (Str × V)) (v : V), x = .ref a ∧ cls = .ref D ∧ d = some dd ∧ H1 dd = some (.xd fs) ∧ XfC K D ∧
    PySem.W.findIn K (.ref D) n = some none ∧ fs.lookup n = some v ∧ Q v H1
theorem pe_pf {e : Expr} {te : TE} {pos : Pos} {n : Str} (hp : (a, oe) ∈ X.pn) (hz : Zc cls d oe) (hf : ∃ vs, oe.data = .fields vs) (he : PE X e te)
    (hb : attributeBase e n X.env (eval e X.env) = eval e X.env := by rfl) : PE X (.Attribute e n pos) (tPf X.K a cls d n te) := by
  refine ⟨fun pins s σ H Q I h => attr_of hb (thn (he.run pins s σ H _ I h) fun u s1 z => ?_)⟩
  obtain ⟨x, H1, I1, rx, D, dd, fs, v, rfl, rfl, rfl, ea, xf, hno, l, q⟩ := z
  obtain rfl : u = Value.ref a := rx
  obtain ⟨od, J, mA, hl, rel⟩ := pinned_inst hp hz hf I1 ea
  have rn := rel n
  rw [l] at rn
  obtain ⟨u, hu, ru⟩ := RelO.some_of rn
  refine HandSPX.exc_get I1.kIn J xf.ga xf.gg xf.exC (PySem.W.findObj_own xf.hdC hno rfl ?_) (handed_of ru) ⟨v, H1, I1.tok _, ru, q⟩
  rw [hl, hu]
end
/-! ### a def called while an error is handled: it raises nothing itself -/
abbrev SpQ := Addr × Obj → Sp
structure FnQ (P : Program) (w : World) (K : PySem.W.Frag) (mg : Str → Option Value) (base : Heap) (k : Nat) (f : Addr) (fd : FuncData) (ps : List Str) (sp : SpQ) : Prop where
  len : ∀ p vs H Q E, sp p vs H Q E → vs.length = ps.length
  run : ∀ (A : Around) (outer : List Env) (s : Shared) (H : Hp) (args : Args) (us : List Value) (vs : List V) (Q : VK) (p : Addr × Obj),
    L2H.RoomH k A → L2H.PinOk outer H s p → Env0 P w K mg base A outer s H → BindsTo s fd args (ps.zip us) → Vals vs us → sp p vs H Q E0 →
    codeAny (model P w) A (.call (.ref f) args) (CR CX0 outer P w H s Q E0) s
section
variable {P : Program} {w : World} {K : PySem.W.Frag} {mg : Str → Option Value} {base : Heap}
theorem okQ {x qual : Str} {st : Stmt} {f : Addr} {fd : FuncData} {N ps : List Str} {k : Nat} {sp : SpQ} (F : Fun K x qual st f fd) (S : FnScope N ps (defScope st))
    (len : ∀ p vs H Q E, sp p vs H Q E → vs.length = ps.length)
    (body : ∀ (cdv : Value) (A : Around) (outer : List Env) (s : Shared) (H : Hp) (vs : List V) (Q : VK) (p : Addr × Obj),
      L2H.RoomH k (A.deeper (envOfC qual (defScope st) s.heap.objs.size f cdv)) → sp p vs H Q E0 →
      ∃ t, PSs (L2H.cxH CX0 P w K mg base N qual (defScope st) f cdv A outer s H E0 p).nox (defBody st) t ∧
        t { nx := fun _ H' => Q .non H', rt := Q } (start N vs) H) : FnQ P w K mg base (k + 1) f fd ps sp := by
  obtain ⟨oc, od, kV, doc, pm, an, cdv, ct, osl, rfl, lk, hcd⟩ := F.ex
  refine ⟨len, fun A outer s H args us vs Q p hr pin e0 hb r hsp => ?_⟩
  have hl := len _ _ _ _ _ hsp
  have old : ∀ b o, base.get? b = some o → s.heap.get? b = some o := fun b o e => (e0.bs b o e).1
  have KX : K.In s.heap := e0.mod.kin.keeps old
  have lim : s.heap.NoLimit := e0.mod.nolimit.keeps old
  have kinds : ∀ y ∈ ps.zip us, (defScope st).names.lookup y.1 = some .local ∨
      ((defScope st).names.lookup y.1 = some .cell ∧ ((cellsFrom (s.heap.objs.size + 1) (defScope st).names []).lookup y.1).isSome = true) := by
    rintro ⟨n, v⟩ hy
    refine (S.par n (List.of_mem_zip hy).1).imp (fun q => q) fun q => ⟨q, ?_⟩
    exact PySem.W.cellsFrom_some _ _ _ (.inl q)
  refine codeAny_call_function hr.depth (KX _ _ lk) rfl S.co S.gen rfl (PySem.W.codeRec_of KX hcd) (hb _ _ _ _ ?_)
  refine wpAny_newFunctionEnv_cells S.kind kinds fun env he s1 x => ?_
  subst he
  refine ⟨lim.keeps x.toInCall.keep, codeAny_func ?_⟩
  obtain ⟨t, ht, hq⟩ := body cdv A outer s H vs Q p (hr.deeper _) hsp
  have I := L2H.inv_startH (CX := CX0) (E := E0) (cd := cdv) (qual := qual) S pin e0 hl r x
  have run := (PSs.nox ht).run [] s1 (start N vs) H _ I hq
  have out : ∀ {σ' : L2.St} {H' : Hp} {v : V} {u : Value} {s' : Shared},
      Inv (L2H.cxH CX0 P w K mg base N qual (defScope st) f cdv A outer s H E0 p) [] σ' H' s' → RelV v u → Q v H' → CE outer P w H s Q u s' :=
    fun J rv q => ⟨_, _, J.os, J.bare, J.base, J.hok, rv, q⟩
  refine wpAny_mono run (fun fl s' z => ?_) fun _ _ z => z
  cases fl with
  | next =>
    obtain ⟨σ', H', J, q⟩ := z
    exact out (v := V.non) (u := Value.none) J rfl q
  | ret u =>
    obtain ⟨v, σ', H', J, rv, q⟩ := z
    exact out J rv q
  | brk => exact z.elim fun _ y => y.elim fun _ y => y.2.elim
  | cont => exact z.elim fun _ y => y.elim fun _ y => y.2.elim
end
section
variable {X : Cx} {k : Nat} {f : Addr} {fd : FuncData} {ps : List Str} {sp : SpQ} {x : Str} {q pos : Pos} {e : Expr} {es : List Expr} {t : TA} {p : Addr × Obj}
def tCallQ (sp : Sp) (t : TA) : TE := fun σ H Q => t σ H fun vs H1 => sp vs H1 Q E0
theorem pe_callQ (F : FnQ X.prog X.w X.K X.mg X.base k f fd ps sp) (hr : L2H.RoomH k X.A) (hp : p ∈ X.pn) (hg : Gl X x) (hm : X.mg x = some (.ref f))
    (hk : PySem.W.keepIn X.K (.ref f) = true) (hb : Binds X.K fd ps []) (ha : PA X (e :: es) t) (hdb : (x == ("__debug__" : Str)) = false := by decide)
    (he : starEach (e :: es) X.env = (false, eval e X.env) :: starEach es X.env := by rfl) (hpl : (backTo pos (starEach es X.env)).any (·.1) = false := by rfl) :
    PE X (.Call (.Name x q) (e :: es) [] pos) (tCallQ (sp p) t) := by
  refine ⟨fun pins s σ H Q I h => wpAny_Call_Name_kw (ld_glob I hg hm ?_ hdb)⟩
  refine PySem.W.callWith_K (h₀ := X.base) I.ok.mod.kin hk (thn (ha.run pos pins s σ H _ I h) fun us s1 z => ?_) he hpl
  obtain ⟨vs, H1, I1, r, hsp⟩ := z
  refine ⟨I1.kIn, ?_⟩
  have hl : us.length = ps.length := r.length.symm.trans (F.len _ _ _ _ _ hsp)
  have b := hb s1 us I1.kIn (by rw [List.append_nil]; exact hl)
  rw [List.append_nil] at b
  obtain ⟨p1, p2, p3, p4, p5⟩ := I1.pin p (List.mem_append_left _ hp)
  have pin : L2H.PinOk X.stack H1 s1 p := ⟨p1, p2, fun hm => (List.mem_cons.mp (I1.stkSub p.1 hm)).elim p3 p4, p5⟩
  refine wpAny_call (codeAny_mono (F.run X.A X.stack s1 H1 ⟨us, []⟩ us vs Q p hr pin I1.env0 b r hsp) fun r s' z => ?_)
  cases r with
  | error e => exact z.elim
  | ok fl =>
    cases fl with
    | ret u => exact I1.after z
    | next => exact z.elim
    | brk => exact z.elim
    | cont => exact z.elim
end
end XR
namespace XR
open PySem PySem.Spec PyProof.Rows L2
/-! ### C(e, ..) where __init__ may raise, the wish told at the caller's slots -/
section
variable {X : Cx} {CX : CXT} {k : Nat} {C f : Addr} {fd : FuncData} {ps : List Str} {sp : Sp} {E : L2.St → XK} {x : Str} {p pos : Pos} {e : Expr} {es : List Expr} {t : TA}
def tMakeS (C : Addr) (sp : Sp) (E : L2.St → XK) (t : TA) : TE := fun σ H Q => t σ H fun vs H1 => ∀ x dx, H1 x = none → H1 dx = none → dx ≠ x →
  sp (.ref x :: vs) (upd (upd H1 dx (.own x)) x (.ins C dx [])) (fun v H2 => v = .non ∧ Q (.ref x) H2) (E σ)
theorem pe_makeS (M : Mk X.K C f) (F : FnOk X.prog X.w X.K X.mg X.base CX k f fd ps sp) (hr : Room (k + 1) X.A) (hg : Gl X x) (hm : X.mg x = some (.ref C)) (hb : Binds X.K fd ps [])
    (hx : ∀ σ, PassesAt CX X σ (E σ)) (ha : PA X (e :: es) t) (hdb : (x == ("__debug__" : Str)) = false := by decide)
    (he : starEach (e :: es) X.env = (false, eval e X.env) :: starEach es X.env := by rfl) (hpl : (backTo pos (starEach es X.env)).any (·.1) = false := by rfl) :
    PE X (.Call (.Name x p) (e :: es) [] pos) (tMakeS C sp E t) := by
  refine ⟨fun pins s σ H Q I h => wpAny_Call_Name_kw (ld_glob I hg hm ?_ hdb)⟩
  refine PySem.W.callWith_K (h₀ := X.base) I.ok.mod.kin M.kp (thn (ha.run pos pins s σ H _ I h) fun us s1 z => ?_) he hpl
  obtain ⟨vs, H1, I1, r, q⟩ := z
  refine ⟨I1.kIn, ?_⟩
  have fr := I1.hok.fresh (a := s1.heap.objs.size) (Nat.le_refl _)
  have fr1 := I1.hok.fresh (a := s1.heap.objs.size + 1) (Nat.le_add_right _ 1)
  have hsp := q (s1.heap.objs.size + 1) s1.heap.objs.size fr1 fr (Nat.ne_of_lt (Nat.lt_succ_self _))
  have I2 := Inv.made (C := C) I1
  have r2 : Vals (V.ref (s1.heap.objs.size + 1) :: vs) (Value.ref (s1.heap.objs.size + 1) :: us) := .cons rfl r
  have hl : (Value.ref (s1.heap.objs.size + 1) :: us).length = ps.length := r2.length.symm.trans (F.len _ _ _ _ hsp)
  have b := hb _ (Value.ref (s1.heap.objs.size + 1) :: us) I2.kIn (by rw [List.append_nil]; exact hl)
  rw [List.append_nil] at b
  have run := F.run _ X.stack _ _ ⟨Value.ref (s1.heap.objs.size + 1) :: us, []⟩ _ _ _ (E σ) (hr.make C us []) (I2.env0.make C us []) b r2 hsp
  refine wpAny_call (make_map (f := f) I1.kIn M.makes M.init (beq_iff_eq.mp M.fn) (codeAny_mono run fun r s' z => ?_))
  cases r with
  | error er => exact hx σ pins _ _ er s' I2 z
  | ok fl =>
    cases fl with
    | ret u =>
      obtain ⟨v, H', I3, rv, ev, q3⟩ := I2.after z
      subst ev
      exact ⟨rv, .ref (s1.heap.objs.size + 1), H', I3, rfl, q3⟩
    | next => exact z.elim
    | brk => exact z.elim
    | cont => exact z.elim
end
end XR
set_option Elab.async false
set_option linter.all false
set_option maxRecDepth 100000
set_option maxHeartbeats 4000000
/-! common lemmas: lists of ints, heaps with one object that changes, errors made and raised -/
namespace XR
open PySem PySem.Spec PyProof.Rows L2
theorem divw {i j : Int} (h : 0 < j) (h2 : j < 2 ^ 63) : CDivW i j := wide_div (b := 63) h (by omega) (by decide) (by decide)
theorem cmul_mod {i j : Int} (h : 0 < j ∧ j < 2 ^ 64) : -(2 ^ 64) < i % j ∧ i % j < 2 ^ 64 := ⟨by have := Int.emod_nonneg i (b := j) (by omega); omega, by have := Int.emod_lt_of_pos i h.1; omega⟩
theorem log_lt {i : Int} (h1 : -(10 ^ 40) < i) (h2 : i < 10 ^ 40) : i.natAbs.log2 < 1920 := by
  have h : i.natAbs < 10 ^ 40 := by omega
  have h3 : (10 : Nat) ^ 40 < 2 ^ 1920 := by decide +kernel
  by_cases z : i.natAbs = 0
  · rw [z]; decide
  · exact (Nat.log2_lt z).mpr (Nat.lt_trans h h3)
/-- a word at which the reading stops (two makers, so that no anonymous one fits) -/
inductive Stop (p : Prop) : Prop where
  | go (h : p)
  | too (h : p)
theorem Stop.out {p : Prop} : Stop p → p
  | .go h => h
  | .too h => h
/-- xs[:n] -/
theorem cutV_take (ns : List Int) (n : Nat) : cutV (ns.map V.int) none (some (n : Int)) = (ns.take n).map V.int := by
  unfold cutV
  have e0 : HT.sIx (ns.map V.int).length 0 none = 0 := rfl
  have e1 : HT.sIx (ns.map V.int).length (ns.map V.int).length (some (n : Int)) = min n (ns.map V.int).length := by
    unfold HT.sIx
    simp
    omega
  rw [e0, e1]
  simp [List.map_take]
theorem get_int {ms : List Int} {i : Nat} {x : V} (h : (ms.map V.int)[i]? = some x) : ∃ z, ms[i]? = some z ∧ x = .int z := by
  rw [List.getElem?_map] at h
  cases e : ms[i]? with
  | none => rw [e] at h; cases h
  | some z => rw [e] at h; exact ⟨z, rfl, (Option.some.inj h).symm⟩
theorem take_one {α : Type} {ms : List α} {i : Nat} {z : α} (h : ms[i]? = some z) : ms.take (i + 1) = ms.take i ++ [z] := by
  rw [List.take_succ, h] <;> rfl
theorem ne_fresh {H : Hp} {a b : Addr} {o : HO} (h : H b = none) (e : H a = some o) : a ≠ b := ne_of_none e h
theorem empty_app (x : Str) : Str.empty ++ x = x := by
  cases x with
  | mk a =>
    show (⟨#[] ++ a⟩ : Str) = ⟨a⟩
    simp
theorem max_if (a c : Int) : (if c > a then c else a) = max a c := by omega
theorem min_if (a c : Int) : (if c < a then c else a) = min a c := by omega
theorem at_ints {cs : List Int} {i : Int} (h0 : 0 ≤ i) (h : i < ((cs.map V.int).length : Nat)) : ∃ z, atI (cs.map V.int) i = some (.int z) := by
  have hl : i.toNat < cs.length := by rw [List.length_map] at h; omega
  refine ⟨cs[i.toNat], at_of (j := i.toNat) (by omega) ?_⟩
  rw [List.getElem?_map, List.getElem?_eq_getElem hl] <;> rfl
/-- the item at a drawn place of a written list -/
theorem at_lt {α : Type} {xs : List α} {i : Int} (h0 : 0 ≤ i) (h : i < (xs.length : Int)) : ∃ x, atI xs i = some x ∧ x ∈ xs := by
  have hl : i.toNat < xs.length := by omega
  refine ⟨xs[i.toNat], ?_, List.getElem_mem hl⟩
  have e := atI_nat (List.getElem?_eq_getElem hl)
  rw [show ((i.toNat : Nat) : Int) = i by omega] at e
  exact e
/-- all but b stands as it stood -/
def ExB (b : Addr) (H H' : Hp) : Prop := ∀ a o, a ≠ b → H a = some o → H' a = some o
theorem ExB.refl {b : Addr} {H : Hp} : ExB b H H := fun _ _ _ e => e
theorem ExB.trans {b : Addr} {H H1 H2 : Hp} (x : ExB b H H1) (y : ExB b H1 H2) : ExB b H H2 := fun a o n e => y a o n (x a o n e)
theorem ExB.same {b : Addr} {H H1 H2 : Hp} (x : ExB b H H1) (y : Same H1 H2) : ExB b H H2 := fun a o n e => y a o (x a o n e)
theorem ExB.of {b : Addr} {H H1 : Hp} (y : Same H H1) : ExB b H H1 := fun a o _ e => y a o e
theorem ExB.upd {b : Addr} {H H' : Hp} {o : HO} (x : ExB b H H') : ExB b H (upd H' b o) := fun a u ha e => by rw [upd_ne ha]; exact x a u ha e
theorem Same.new {H H' : Hp} {p : Addr} {o : HO} (x : Same H H') (h : H' p = none) : Same H (upd H' p o) := fun a u e => by
  have q := x a u e
  rw [upd_ne (ne_of_none q h)]
  exact q
theorem ExB.new {b : Addr} {H H' : Hp} {p : Addr} {o : HO} (x : ExB b H H') (h : H' p = none) : ExB b H (L2.upd H' p o) := fun a u n e => by
  have q := x a u n e
  rw [upd_ne (ne_of_none q h)]
  exact q
/-- nothing stands at p behind either -/
theorem none_back {H H' : Hp} {p : Addr} (x : Same H H') (h : H' p = none) : H p = none := Same.free x h
theorem none_backB {b : Addr} {H H' : Hp} {p : Addr} (x : ExB b H H') (n : p ≠ b) (h : H' p = none) : H p = none := by
  cases e : H p with
  | none => rfl
  | some o => rw [x p o n e] at h; cases h

theorem hot_of {A : Around} {k : Nat} {v : Option Value} (r : Room k A) : L2H.RoomH k (A.mark v) := ⟨r.dp, r.un⟩
/-! ### an error of the program with fields: made, raised -/
/-- what its __init__ leaves -/
def spEx (C : Addr) (fs : List V → Option (List (Str × V))) : Sp := fun vs H Q _ => ∃ (a : Addr) (ws : List V) (l : List (Str × V)), vs = .ref a :: ws ∧ fs ws = some l ∧
  H a = some (exo a C none) ∧ ∀ d H', H d = none → d ≠ a → H' a = some (exo a C (some d)) → H' d = some (exd d l) → (∀ q o, q ≠ a → H q = some o → H' q = some o) → Q .non H'
/-- the wish of what is raised: an error of the class at C with these fields, all else as it stood -/
def Wish (C : Addr) (l : List (Str × V)) (H : Hp) (E : Value → Option Addr → Hp → Prop) : Prop := ∀ d H', H' d = some (.xd l) → Same H H' → E (.ref C) (some d) H'
theorem mk_ex {C : Addr} {fs : List V → Option (List (Str × V))} {vs : List V} {l : List (Str × V)} {H : Hp} {E : XK} (hl : vs.length ≤ 1000) (hf : fs vs = some l) (k : Wish C l H E) :
    vs.length ≤ 1000 ∧ ∀ a, H a = none → spEx C fs (.ref a :: (vs ++ [])) (upd H a (exo a C none))
      (fun v H2 => v = .non ∧ ∃ (d : Addr) (g : List (Str × V)), H2 a = some (exo a C (some d)) ∧ H2 d = some (exd d g) ∧ H d = none ∧ E (.ref C) (some d) (upd (del H2 a) d (.xd g))) (fun _ _ _ => False) := by
  refine ⟨hl, fun a ha => ⟨a, vs, l, by rw [List.append_nil], hf, upd_same, fun d H' hd hda ea ed x => ⟨rfl, d, l, ea, ed, ?_, k d _ upd_same fun q o e => ?_⟩⟩⟩
  · rw [upd_ne hda] at hd
    exact hd
  · have hqa : q ≠ a := ne_of_none e ha
    have hqd : q ≠ d := fun z => by
      rw [upd_ne hda] at hd
      rw [z, hd] at e
      cases e
    rw [upd_ne hqd, del_ne hqa]
    refine x q o hqa ?_
    rw [upd_ne hqa]
    exact e
theorem init_ex1 {K : PySem.W.Frag} {C a : Addr} {f : Str} {v : V} {H : Hp} {Q : Hp → Prop} (oc : OexC K C) (hn : PySem.W.findIn K (.ref C) f = some none) (ha : H a = some (exo a C none))
    (k : ∀ d H', H d = none → d ≠ a → H' a = some (exo a C (some d)) → H' d = some (exd d [(f, v)]) → (∀ q o, q ≠ a → H q = some o → H' q = some o) → Q H') :
    ∃ a' C' : Addr, V.ref a = .ref a' ∧ OexC K C' ∧ PySem.W.findIn K (.ref C') f = some none ∧
      ((H a' = some (exo a' C' none) ∧ ∀ dx, H dx = none → dx ≠ a' → Q (upd (upd H dx (exd dx [(f, v)])) a' (exo a' C' (some dx)))) ∨
        ∃ (dx : Addr) (fs : List (Str × V)), H a' = some (exo a' C' (some dx)) ∧ H dx = some (exd dx fs) ∧ fs.length ≤ 900 ∧ Q (upd H dx (exd dx ((f, v) :: fs)))) := by
  refine ⟨a, C, rfl, oc, hn, .inl ⟨ha, fun dx hd hne => k dx _ hd hne upd_same (by rw [upd_ne hne]; exact upd_same) fun q o hq e => ?_⟩⟩
  rw [upd_ne hq, upd_ne (ne_of_none e hd)]
  exact e
theorem init_ex2 {K : PySem.W.Frag} {C a d : Addr} {f : Str} {v : V} {l : List (Str × V)} {H : Hp} {Q : Hp → Prop} (oc : OexC K C) (hn : PySem.W.findIn K (.ref C) f = some none) (hl : l.length ≤ 900)
    (ha : H a = some (exo a C (some d))) (hd : H d = some (exd d l)) (hda : d ≠ a)
    (k : ∀ H', H' a = some (exo a C (some d)) → H' d = some (exd d ((f, v) :: l)) → (∀ q o, q ≠ a → q ≠ d → H q = some o → H' q = some o) → Q H') :
    ∃ a' C' : Addr, V.ref a = .ref a' ∧ OexC K C' ∧ PySem.W.findIn K (.ref C') f = some none ∧
      ((H a' = some (exo a' C' none) ∧ ∀ dx, H dx = none → dx ≠ a' → Q (upd (upd H dx (exd dx [(f, v)])) a' (exo a' C' (some dx)))) ∨
        ∃ (dx : Addr) (fs : List (Str × V)), H a' = some (exo a' C' (some dx)) ∧ H dx = some (exd dx fs) ∧ fs.length ≤ 900 ∧ Q (upd H dx (exd dx ((f, v) :: fs)))) := by
  refine ⟨a, C, rfl, oc, hn, .inr ⟨d, l, ha, hd, hl, k _ (by rw [upd_ne hda.symm]; exact ha) upd_same fun q o _ hq e => by rw [upd_ne hq]; exact e⟩⟩
end XR
namespace XR
open PySem L2
theorem ifF {c : Bool} {P Q : Prop} (h : c = false) (k : Q) : if c = true then P else Q := by rw [h, if_neg (by decide)]; exact k
theorem ifT {c : Bool} {P Q : Prop} (h : c = true) (k : P) : if c = true then P else Q := by rw [if_pos h]; exact k
end XR
namespace XR
open PySem L2
section
variable {X : Cx} {a b : Addr} {oe : Obj} {cls : Value} {d : Option Addr} {pn : List (Addr × Obj)}
theorem call_isPs (hz : Zc cls d oe) (hf : ∃ vs, oe.data = .fields vs) : CallR (X.suite b ((a, oe) :: pn)) (.builtin "isinstance") (rIsP X.K cls d a) := call_isP List.mem_cons_self hz hf
theorem call_isPTs (hz : Zc cls d oe) (hf : ∃ vs, oe.data = .fields vs) : CallR (X.suite b ((a, oe) :: pn)) (.builtin "isinstance") (rIsPT X.K cls d a) := call_isPT List.mem_cons_self hz hf
theorem pe_pfs {e : Expr} {te : TE} {pos : Pos} {n : Str} (hz : Zc cls d oe) (hf : ∃ vs, oe.data = .fields vs) (he : PE (X.suite b ((a, oe) :: pn)) e te)
    (hb : attributeBase e n (X.suite b ((a, oe) :: pn)).env (eval e (X.suite b ((a, oe) :: pn)).env) = eval e (X.suite b ((a, oe) :: pn)).env := by rfl) : PE (X.suite b ((a, oe) :: pn)) (.Attribute e n pos) (tPf X.K a cls d n te) :=
  pe_pf List.mem_cons_self hz hf he hb
theorem pe_callQs {k : Nat} {f : Addr} {fd : FuncData} {ps : List Str} {sp : SpQ} {x : Str} {q pos : Pos} {e : Expr} {es : List Expr} {t : TA}
    (F : FnQ (X.suite b ((a, oe) :: pn)).prog (X.suite b ((a, oe) :: pn)).w (X.suite b ((a, oe) :: pn)).K (X.suite b ((a, oe) :: pn)).mg (X.suite b ((a, oe) :: pn)).base k f fd ps sp) (hr : L2H.RoomH k (X.suite b ((a, oe) :: pn)).A) (hg : Gl (X.suite b ((a, oe) :: pn)) x) (hm : (X.suite b ((a, oe) :: pn)).mg x = some (.ref f))
    (hk : PySem.W.keepIn (X.suite b ((a, oe) :: pn)).K (.ref f) = true) (hb : Binds (X.suite b ((a, oe) :: pn)).K fd ps []) (ha : PA (X.suite b ((a, oe) :: pn)) (e :: es) t) (hdb : (x == ("__debug__" : Str)) = false := by decide)
    (he : starEach (e :: es) (X.suite b ((a, oe) :: pn)).env = (false, eval e (X.suite b ((a, oe) :: pn)).env) :: starEach es (X.suite b ((a, oe) :: pn)).env := by rfl) (hpl : (backTo pos (starEach es (X.suite b ((a, oe) :: pn)).env)).any (·.1) = false := by rfl) :
    PE (X.suite b ((a, oe) :: pn)) (.Call (.Name x q) (e :: es) [] pos) (tCallQ (sp (a, oe)) t) := pe_callQ (p := (a, oe)) F hr List.mem_cons_self hg hm hk hb ha hdb he hpl
end
end XR
namespace XR
open PySem L2
theorem cong_ts {X : Cx} {ss : List Stmt} {t t' : TS} (h : PSs X ss t) (e : t = t') : PSs X ss t' := e ▸ h
end XR
namespace XR
open PySem L2
theorem kitAny_cons {K : PySem.W.Frag} {t c : Value} {r : List Value} (h : PySem.W.kitOne K t c = some false) (hr : PySem.W.kitAny K t r = some false) : PySem.W.kitAny K t (c :: r) = some false := by
  unfold PySem.W.kitAny
  rw [h]
  exact hr
theorem kitAny_4 {K : PySem.W.Frag} {t a b c d : Value} (h1 : PySem.W.kitOne K t a = some false) (h2 : PySem.W.kitOne K t b = some false) (h3 : PySem.W.kitOne K t c = some false) (h4 : PySem.W.kitOne K t d = some false) : PySem.W.kitAny K t [a, b, c, d] = some false :=
  kitAny_cons h1 (kitAny_cons h2 (kitAny_cons h3 (kitAny_cons h4 rfl)))
end XR
namespace XR
open PySem L2
/-- .. in a comprehension's block -/
theorem ix_listb {X : Cx} {s : Shared} {H : Hp} {sc : Scope} {ce : Env} {fp : List Addr} : IxR (X.blk s H sc ce fp) (rIxL X.K) := ix_list
theorem ix_tupb {X : Cx} {s : Shared} {H : Hp} {sc : Scope} {ce : Env} {fp : List Addr} : IxR (X.blk s H sc ce fp) (rIxT X.K) := ix_tup
end XR
namespace XR
open PySem PySem.Spec PyProof.Rows L2
structure CStat (K : PySem.W.Frag) (C p g : Addr) (m : Str) : Prop where
  rd : PySem.W.readsIn K C (.type "type") = true
  ga : PySem.W.specialIn K (.ref C) "__getattribute__" = some (some (.builtin "type.__getattribute__"))
  at_ : PySem.W.findCls K (.ref C) (.type "type") m = some (.get (.builtin "staticmethod.__get__") (.ref p) .none (.ref C))
  rc : ∃ rest, PySem.W.recIn K p "staticmethod" = some (.ref g :: rest)
section
variable {X : Cx} {pins : List (Addr × Obj)} {σ : L2.St} {H : Hp} {s : Shared} {C p g : Addr} {m : Str} {A : Around} {E : Value → Shared → Prop}
theorem getstat_ok {pl : Sem Bool} {Q : Value × List Value → Shared → Prop} (I : Inv X pins σ H s) (r : CStat X.K C p g m) (h : ∀ s', Inv X pins σ H s' → Q (.ref g, []) s') : wpAny (model X.prog X.w) A (getMethod (.ref C) m pl) Q E s := by
  obtain ⟨rest, hp⟩ := r.rc
  exact PySem.W.method_cls I.kIn r.ga (PySem.W.cls_bind I.kIn r.rd r.at_ (wpAny_call (PySem.W.sm_get (s := { s with toks := s.toks + 1 }) I.kIn hp (PySem.W.handed_on rfl (h _ (I.tok _))))))
end
/-- C.m(..), m a staticmethod; E told at the caller's slots -/
def tStat (C : Addr) (sp : Sp) (E : L2.St → XK) (ta : TE) (t : TA) : TE := fun σ H Q => ta σ H fun x H1 => x = .ref C ∧ t σ H1 fun vs H2 => sp vs H2 Q (E σ)
section
variable {X : Cx} {CX : CXT} {k : Nat} {C p g : Addr} {fd : FuncData} {ps : List Str} {sp : Sp} {ES : L2.St → XK} {o e : Expr} {es : List Expr} {m : Str} {pos apos : Pos} {ta : TE} {t : TA} {pl : Sem Bool}
theorem pe_stat (he : PE X o ta) (r : CStat X.K C p g m) (F : FnOk X.prog X.w X.K X.mg X.base CX k g fd ps sp) (hr : Room k X.A) (hk : PySem.W.keepIn X.K (.ref g) = true) (hb : Binds X.K fd ps []) (hx : ∀ σ, PassesAt CX X σ (ES σ)) (ha : PA X (e :: es) t)
    (hst : starEach (e :: es) X.env = (false, eval e X.env) :: starEach es X.env := by rfl) (hpl : (backTo pos (starEach es X.env)).any (·.1) = false := by rfl)
    (ht : eval (.Call (.Attribute o m apos) (e :: es) [] pos) X.env = (do
      let ov ← eval o X.env
      standAt apos.atName
      let (f, first) ← holding [ov] (getMethod ov m pl)
      callWith pos f first (backTo pos (starEach (e :: es) X.env)) (backToKw pos (keywordEach [] X.env))) := by rfl) :
    PE X (.Call (.Attribute o m apos) (e :: es) [] pos) (tStat C sp ES ta t) := by
  refine ⟨fun pins s σ H Q I h => ?_⟩
  refine PySem.W.methodCall_KW (pl := pl) (thn (he.run pins s σ H _ I h) fun u s1 ⟨x, H1, I1, rx, ex, q⟩ => ?_) ht
  subst ex
  obtain rfl : u = Value.ref C := rx
  refine getstat_ok I1 r fun s2 I2 => ?_
  refine PySem.W.callWith_K (h₀ := X.base) I.ok.mod.kin hk (thn (ha.run pos _ s2 σ H1 _ I2 q) fun us s3 ⟨vs, H2, I3, rv, q2⟩ => ⟨I3.kIn, ?_⟩) hst hpl
  exact run_at F hr rfl hb (hx σ) I3 rv q2
theorem pe_stat0 (he : PE X o ta) (r : CStat X.K C p g m) (F : FnOk X.prog X.w X.K X.mg X.base CX k g fd ps sp) (hr : Room k X.A) (hk : PySem.W.keepIn X.K (.ref g) = true) (hb : Binds X.K fd ps []) (hx : ∀ σ, PassesAt CX X σ (ES σ))
    (ht : eval (.Call (.Attribute o m apos) [] [] pos) X.env = (do
      let ov ← eval o X.env
      standAt apos.atName
      let (f, first) ← holding [ov] (getMethod ov m pl)
      callWith pos f first (backTo pos (starEach [] X.env)) (backToKw pos (keywordEach [] X.env))) := by rfl) :
    PE X (.Call (.Attribute o m apos) [] [] pos) (tStat C sp ES ta tNil) := by
  refine ⟨fun pins s σ H Q I h => ?_⟩
  refine PySem.W.methodCall_KW (pl := pl) (thn (he.run pins s σ H _ I h) fun u s1 ⟨x, H1, I1, rx, ex, q⟩ => ?_) ht
  subst ex
  obtain rfl : u = Value.ref C := rx
  refine getstat_ok I1 r fun s2 I2 => ?_
  exact PySem.W.callWith_K0 I2.kIn hk (run_at (us := []) F hr rfl hb (hx σ) I2 .nil q)
end
end XR
namespace XR
open PySem L2
/-- turns over a range, whatever a turn does -/
theorem turn_range {lo : Int} {n : Nat} {H0 : Hp} {Qd : Hp → Prop} {Body : V → Hp → (Hp → Prop) → Prop} (Pv : Nat → Hp → Prop) (h0 : Pv 0 H0) (hs : ∀ i H, i < n → Pv i H → Body (.int (lo + i)) H (Pv (i + 1))) (hd : ∀ H, Pv n H → Qd H) :
    ∃ W : Nat → Nat → Hp → Prop, (∃ m, W 0 m H0) ∧ ∀ i m H, W i m H →
      ((Itr lo n).stop i H ∧ Qd H) ∨ ((Itr lo n).go i H ∧ ∃ Nx : Hp → Prop, (∀ H', Nx H' → ∃ m', m' < m ∧ W (i + 1) m' H') ∧ ∀ x H', (Itr lo n).yld i H x H' → Body x H' Nx) := by
  refine ⟨fun i m H => m = n - i ∧ i ≤ n ∧ Pv i H, ⟨n, by simp, Nat.zero_le _, h0⟩, ?_⟩
  rintro i m H ⟨rfl, hi, p⟩
  by_cases hlt : i < n
  · refine .inr ⟨hlt, Pv (i + 1), fun H' p' => ⟨n - (i + 1), by omega, rfl, hlt, p'⟩, fun x H' y => ?_⟩
    obtain ⟨e, y⟩ := y
    subst e y
    exact hs i _ hlt p
  · have e : i = n := by omega
    subst e
    exact .inl ⟨Nat.le_refl _, hd H p⟩
end XR
set_option Elab.async false
set_option linter.all false
set_option maxRecDepth 100000
set_option maxHeartbeats 4000000
/-! views: what is settled (G) within the heap (H); data by PyData -/
namespace XR
open PySem PySem.Spec PyProof.Rows L2
theorem SqL.same {K : PySem.W.Frag} {G H : Hp} {a : Addr} {xs : List V} (h : SqL K G a xs) (v : Same G H) : SqL K H a xs := Same.seq v h
theorem SqT.same {K : PySem.W.Frag} {G H : Hp} {a : Addr} {xs : List V} (h : SqT K G a xs) (v : Same G H) : SqT K H a xs := by
  rcases h with h | h
  · rcases h with h | ⟨o, h⟩
    · exact .inl (.inl (v _ _ h))
    · exact .inl (.inr ⟨o, v _ _ h⟩)
  · exact .inr h
mutual
theorem Dp.same {K : PySem.W.Frag} {G H : Hp} (v : Same G H) : ∀ {x : V} {d : PyData}, Dp K G x d → Dp K H x d
  | _, _, .non => .non
  | _, _, .bl b => .bl b
  | _, _, .int i => .int i
  | _, _, .str i => .str i
  | _, _, .lst s a => .lst (SqL.same s v) (DpAll.same v a)
  | _, _, .tup s a => .tup (SqT.same s v) (DpAll.same v a)
theorem DpAll.same {K : PySem.W.Frag} {G H : Hp} (v : Same G H) : ∀ {xs : List V} {ds : List PyData}, DpAll K G xs ds → DpAll K H xs ds
  | _, _, .nil => .nil
  | _, _, .cons a b => .cons (Dp.same v a) (DpAll.same v b)
end
theorem Dp.int_inv {K : PySem.W.Frag} {G : Hp} {x : V} {z : Int} (h : Dp K G x (.int z)) : x = .int z := by cases h; rfl
theorem Dp.bl_inv {K : PySem.W.Frag} {G : Hp} {x : V} {z : Bool} (h : Dp K G x (.bool z)) : x = .bl z := by cases h; rfl
theorem Dp.str_inv {K : PySem.W.Frag} {G : Hp} {x : V} {z : Str} (h : Dp K G x (.str z)) : x = .str z := by cases h; rfl
theorem Dp.non_inv {K : PySem.W.Frag} {G : Hp} {x : V} (h : Dp K G x .none) : x = .non := by cases h; rfl
theorem Dp.lst_inv {K : PySem.W.Frag} {G : Hp} {x : V} {ds : List PyData} (h : Dp K G x (.list ds)) : ∃ p xs, x = .ref p ∧ SqL K G p xs ∧ DpAll K G xs ds := by
  cases h with | lst s a => exact ⟨_, _, rfl, s, a⟩
theorem Dp.tup_inv {K : PySem.W.Frag} {G : Hp} {x : V} {ds : List PyData} (h : Dp K G x (.tuple ds)) : ∃ p xs, x = .ref p ∧ SqT K G p xs ∧ DpAll K G xs ds := by
  cases h with | tup s a => exact ⟨_, _, rfl, s, a⟩
theorem DpAll.length {K : PySem.W.Frag} {G : Hp} : ∀ {xs : List V} {ds : List PyData}, DpAll K G xs ds → xs.length = ds.length
  | _, _, .nil => rfl
  | _, _, .cons _ b => congrArg (· + 1) (DpAll.length b)
theorem DpAll.get {K : PySem.W.Frag} {G : Hp} : ∀ {xs : List V} {ds : List PyData} {i : Nat} {x : V}, DpAll K G xs ds → xs[i]? = some x → ∃ d, ds[i]? = some d ∧ Dp K G x d
  | _, _, _, _, .nil, e => by cases e
  | _, _, 0, _, .cons a _, e => by cases e; exact ⟨_, rfl, a⟩
  | _, _, i + 1, _, .cons _ b, e => DpAll.get (i := i) b e
theorem DpAll.get' {K : PySem.W.Frag} {G : Hp} : ∀ {xs : List V} {ds : List PyData} {i : Nat} {d : PyData}, DpAll K G xs ds → ds[i]? = some d → ∃ x, xs[i]? = some x ∧ Dp K G x d
  | _, _, _, _, .nil, e => by cases e
  | _, _, 0, _, .cons a _, e => by cases e; exact ⟨_, rfl, a⟩
  | _, _, i + 1, _, .cons _ b, e => DpAll.get' (i := i) b e
theorem DpAll.append {K : PySem.W.Frag} {G : Hp} {ys : List V} {es : List PyData} (q : DpAll K G ys es) : ∀ {xs : List V} {ds : List PyData}, DpAll K G xs ds → DpAll K G (xs ++ ys) (ds ++ es)
  | _, _, .nil => q
  | _, _, .cons a b => .cons a (DpAll.append q b)
theorem DpAll.snoc {K : PySem.W.Frag} {G : Hp} {xs : List V} {ds : List PyData} {y : V} {e : PyData} (p : DpAll K G xs ds) (q : Dp K G y e) : DpAll K G (xs ++ [y]) (ds ++ [e]) := DpAll.append (.cons q .nil) p
theorem DpAll.ints {K : PySem.W.Frag} {G : Hp} : ∀ {xs : List V} {ns : List Int}, DpAll K G xs (ns.map PyData.int) → xs = ns.map V.int
  | _, [], .nil => rfl
  | _, _ :: _, .cons a b => by rw [Dp.int_inv a, DpAll.ints b]; rfl
theorem DpAll.of_ints {K : PySem.W.Frag} {G : Hp} : ∀ (ns : List Int), DpAll K G (ns.map V.int) (ns.map PyData.int)
  | [] => .nil
  | n :: r => .cons (.int n) (DpAll.of_ints r)
/-- a pair of ints -/
abbrev pD : Int × Int → PyData := fun c => .tuple [.int c.1, .int c.2]
abbrev pDs (cs : List (Int × Int)) : List PyData := cs.map pD
theorem Dp.pair {K : PySem.W.Frag} {G : Hp} {x : V} {c : Int × Int} (h : Dp K G x (pD c)) : ∃ p, x = .ref p ∧ SqT K G p [.int c.1, .int c.2] := by
  obtain ⟨p, xs, rfl, s, a⟩ := Dp.tup_inv h
  cases a with | cons a1 a2 =>
  cases a2 with | cons b1 b2 =>
  cases b2
  rw [Dp.int_inv a1, Dp.int_inv b1] at s
  exact ⟨p, rfl, s⟩
theorem Dp.mk_pair {K : PySem.W.Frag} {G : Hp} {p : Addr} {a b : Int} (h : SqT K G p [.int a, .int b]) : Dp K G (.ref p) (pD (a, b)) := .tup h (.cons (.int a) (.cons (.int b) .nil))
theorem pairs_get {K : PySem.W.Frag} {G : Hp} {xs : List V} {cs : List (Int × Int)} {i : Nat} {x : V} (h : DpAll K G xs (pDs cs)) (e : xs[i]? = some x) : ∃ c p, cs[i]? = some c ∧ x = .ref p ∧ SqT K G p [.int c.1, .int c.2] ∧ Dp K G (.ref p) (pD c) := by
  obtain ⟨d, hd, q⟩ := DpAll.get h e
  rw [List.getElem?_map] at hd
  cases ec : cs[i]? with
  | none => rw [ec] at hd; cases hd
  | some c =>
    rw [ec] at hd
    cases hd
    obtain ⟨p, rfl, s⟩ := Dp.pair q
    exact ⟨c, p, rfl, rfl, s, q⟩
theorem pairs_at {K : PySem.W.Frag} {G : Hp} {xs : List V} {cs : List (Int × Int)} {i : Nat} {c : Int × Int} (h : DpAll K G xs (pDs cs)) (e : cs[i]? = some c) : ∃ p, xs[i]? = some (.ref p) ∧ SqT K G p [.int c.1, .int c.2] ∧ Dp K G (.ref p) (pD c) := by
  obtain ⟨x, hx, q⟩ := DpAll.get' (i := i) (d := pD c) h (by rw [List.getElem?_map, e]; rfl)
  obtain ⟨p, rfl, s⟩ := Dp.pair q
  exact ⟨p, hx, s, q⟩
/-! ### steps -/
/-- from (G, H) to (G', H'): nothing changes, what is new in the view is new -/
structure Step (G H G' H' : Hp) : Prop where
  vw : Same G' H'
  gg : Same G G'
  hh : Same H H'
  fr : ∀ a, H a ≠ none → G a = none → G' a = none
theorem Step.refl {G H : Hp} (v : Same G H) : Step G H G H := ⟨v, Same.refl _, Same.refl _, fun _ _ e => e⟩
theorem Same.some {H H' : Hp} {a : Addr} (x : Same H H') (h : H a ≠ none) : H' a ≠ none := fun e => h (Same.free x e)
theorem Step.trans {G H G1 H1 G2 H2 : Hp} (a : Step G H G1 H1) (b : Step G1 H1 G2 H2) : Step G H G2 H2 :=
  ⟨b.vw, a.gg.trans b.gg, a.hh.trans b.hh, fun p h e => b.fr p (Same.some a.hh h) (a.fr p h e)⟩
theorem Step.same {G H H' : Hp} (v : Same G H) (x : Same H H') : Step G H G H' := ⟨v.trans x, Same.refl _, x, fun _ _ e => e⟩
theorem Step.more {G H G1 H1 H2 : Hp} (a : Step G H G1 H1) (x : Same H1 H2) : Step G H G1 H2 := a.trans (Step.same a.vw x)
theorem Same.upd2 {G H : Hp} {p : Addr} {o : HO} (v : Same G H) : Same (upd G p o) (upd H p o) := fun q u e => by
  by_cases z : q = p
  · subst z
    rw [upd_same] at e
    rw [upd_same]
    exact e
  · rw [upd_ne z] at e
    rw [upd_ne z]
    exact v _ _ e
theorem Same.add {H : Hp} {p : Addr} {o : HO} (h : H p = none) : Same H (upd H p o) := fun q u e => by rw [upd_ne (ne_of_none e h)]; exact e
theorem fr_add {G H : Hp} {p : Addr} {o : HO} (h : H p = none) : ∀ a, H a ≠ none → G a = none → (upd G p o) a = none := fun a ha e => by
  rw [upd_ne (fun z => ha (by rw [z]; exact h))]
  exact e
/-- a new settled object -/
theorem Step.new {G H : Hp} {p : Addr} {o : HO} (v : Same G H) (h : H p = none) : Step G H (upd G p o) (upd H p o) :=
  ⟨Same.upd2 v, Same.add (Same.free v h), Same.add h, fr_add h⟩
/-- .. made by a callee -/
theorem Step.lift {G H H' : Hp} {p : Addr} {o : HO} (v : Same G H) (h : H p = none) (x : Same H H') (e : H' p = some o) : Step G H (upd G p o) H' :=
  ⟨fun q u z => by
    by_cases n : q = p
    · subst n
      rw [upd_same] at z
      exact e.trans z
    · rw [upd_ne n] at z
      exact x _ _ (v _ _ z), Same.add (Same.free v h), x, fr_add h⟩
/-- a new object that may still change -/
theorem Step.mut {G H : Hp} {p : Addr} {o : HO} (v : Same G H) (h : H p = none) : Step G H G (upd H p o) := Step.same v (Same.add h)
/-- .. changed -/
theorem Step.upd {G H G' H' : Hp} {l : Addr} {o : HO} (s : Step G H G' H') (h : H l = none) (g : G' l = none) : Step G H G' (upd H' l o) :=
  ⟨fun q u e => by rw [upd_ne (ne_of_none e g)]; exact s.vw _ _ e, s.gg, fun q u e => by rw [upd_ne (ne_of_none e h)]; exact s.hh _ _ e, s.fr⟩
/-- .. settled -/
theorem Step.freeze {G H G' H' : Hp} {l : Addr} {o : HO} (s : Step G H G' H') (h : H l = none) (g : G' l = none) (e : H' l = some o) : Step G H (L2.upd G' l o) H' :=
  ⟨fun q u z => by
    by_cases n : q = l
    · subst n
      rw [L2.upd_same] at z
      exact e.trans z
    · rw [upd_ne n] at z
      exact s.vw _ _ z, s.gg.trans (Same.add g), s.hh, fun a ha ea => by rw [upd_ne (fun z => ha (by rw [z]; exact h))]; exact s.fr a ha ea⟩
/-- a list that grows -/
structure Grow (K : PySem.W.Frag) (G H : Hp) (l : Addr) (out : List PyData) (G' H' : Hp) (acc : List V) : Prop where
  st : XR.Step G H G' H'
  nl : H l = none
  gl : G' l = none
  el : H' l = some (.lst acc)
  ds : DpAll K G' acc out
/-- .. somehow -/
def LcI (K : PySem.W.Frag) (G H : Hp) (l : Addr) (out : List PyData) (H' : Hp) : Prop := ∃ G' acc, Grow K G H l out G' H' acc
section
variable {K : PySem.W.Frag} {G H G' H' G1 H1 : Hp} {l : Addr} {out : List PyData} {acc : List V}
theorem Grow.start (v : Same G H) (h : H l = none) : Grow K G H l [] G (upd H l (.lst [])) [] := ⟨Step.mut v h, h, Same.free v h, upd_same, .nil⟩
theorem LcI.start (v : Same G H) (h : H l = none) : LcI K G H l [] (upd H l (.lst [])) := ⟨_, _, Grow.start v h⟩
theorem Grow.len (g : Grow K G H l out G' H' acc) : acc.length = out.length := XR.DpAll.length g.ds
theorem Grow.step (g : Grow K G H l out G' H' acc) (s : Step G' H' G1 H1) : Grow K G H l out G1 H1 acc :=
  ⟨g.st.trans s, g.nl, s.fr _ (by rw [g.el]; exact fun z => by cases z) g.gl, s.hh _ _ g.el, DpAll.same s.gg g.ds⟩
theorem Grow.add (g : Grow K G H l out G' H' acc) {v : V} {d : PyData} (q : Dp K G' v d) : Grow K G H l (out ++ [d]) G' (upd H' l (.lst (acc ++ [v]))) (acc ++ [v]) :=
  ⟨g.st.upd g.nl g.gl, g.nl, g.gl, upd_same, DpAll.snoc g.ds q⟩
/-- a comprehension's turn that adds -/
theorem Grow.push (g : Grow K G H l out G' H' acc) {v : V} {d : PyData} (q : Dp K G' v d) (hl : out.length < sizeLine) :
    ∃ acc, H' l = some (.lst acc) ∧ acc.length < sizeLine ∧ LcI K G H l (out ++ [d]) (upd H' l (.lst (acc ++ [v]))) :=
  ⟨acc, g.el, by rw [g.len]; exact hl, _, _, g.add q⟩
/-- the list is settled -/
theorem Grow.freeze (g : Grow K G H l out G' H' acc) : Step G H (upd G' l (.lst acc)) H' ∧ Dp K (upd G' l (.lst acc)) (.ref l) (.list out) :=
  ⟨g.st.freeze g.nl g.gl g.el, .lst (SqL.of upd_same) (DpAll.same (Same.add g.gl) g.ds)⟩
end
/-! ### steps with one object b that changes (a law's box) -/
structure StB (b : Addr) (G H G' H' : Hp) : Prop where
  vw : Same G' H'
  gg : Same G G'
  gb : G' b = none
  hh : ExB b H H'
section
variable {K : PySem.W.Frag} {b p l : Addr} {G H G1 H1 G2 H2 : Hp} {o : HO} {out : List PyData} {acc : List V}
theorem StB.refl (v : Same G H) (g : G b = none) : StB b G H G H := ⟨v, Same.refl _, g, ExB.refl⟩
theorem StB.trans (s : StB b G H G1 H1) (t : StB b G1 H1 G2 H2) : StB b G H G2 H2 := ⟨t.vw, s.gg.trans t.gg, t.gb, s.hh.trans t.hh⟩
theorem StB.draw (s : StB b G H G1 H1) (x : ExB b H1 H2) : StB b G H G1 H2 :=
  ⟨fun a u e => x a u (fun z => by rw [z, s.gb] at e; cases e) (s.vw a u e), s.gg, s.gb, s.hh.trans x⟩
theorem StB.new (s : StB b G H G1 H1) (h : H1 p = none) (n : p ≠ b) : StB b G H (upd G1 p o) (upd H1 p o) :=
  ⟨Same.upd2 s.vw, s.gg.trans (Same.add (Same.free s.vw h)), by rw [upd_ne n.symm]; exact s.gb, s.hh.new h⟩
theorem StB.mut (s : StB b G H G1 H1) (h : H1 p = none) : StB b G H G1 (upd H1 p o) := ⟨s.vw.trans (Same.add h), s.gg, s.gb, s.hh.new h⟩
theorem StB.upd (s : StB b G H G1 H1) (h : H p = none) (g : G1 p = none) : StB b G H G1 (L2.upd H1 p o) :=
  ⟨fun q u e => by rw [upd_ne (ne_of_none e g)]; exact s.vw _ _ e, s.gg, s.gb, fun q u n e => by rw [upd_ne (ne_of_none e h)]; exact s.hh _ _ n e⟩
theorem StB.step (s : StB b G H G1 H1) (hb : H1 b ≠ none) (t : Step G1 H1 G2 H2) : StB b G H G2 H2 := ⟨t.vw, s.gg.trans t.gg, t.fr _ hb s.gb, s.hh.same t.hh⟩
theorem StB.same (s : StB b G H G1 H1) (t : Same H1 H2) : StB b G H G1 H2 := ⟨s.vw.trans t, s.gg, s.gb, s.hh.same t⟩
theorem StB.freeze (s : StB b G H G1 H1) (n : p ≠ b) (g : G1 p = none) (e : H1 p = some o) : StB b G H (L2.upd G1 p o) H1 :=
  ⟨fun q u z => by
    by_cases n : q = p
    · subst n
      rw [upd_same] at z
      exact e.trans z
    · rw [upd_ne n] at z
      exact s.vw _ _ z, s.gg.trans (Same.add g), by rw [upd_ne n.symm]; exact s.gb, s.hh⟩
/-- a list that grows between the draws -/
structure GrowB (K : PySem.W.Frag) (b : Addr) (G H : Hp) (l : Addr) (out : List PyData) (G' H' : Hp) (acc : List V) : Prop where
  st : StB b G H G' H'
  nl : H l = none
  lb : l ≠ b
  gl : G' l = none
  el : H' l = some (.lst acc)
  ds : DpAll K G' acc out
theorem GrowB.start (s : StB b G H G H) (h : H p = none) (n : p ≠ b) : GrowB K b G H p [] G (L2.upd H p (.lst [])) [] := ⟨s.mut h, h, n, Same.free s.vw h, upd_same, .nil⟩
theorem GrowB.draw (g : GrowB K b G H l out G1 H1 acc) (x : ExB b H1 H2) : GrowB K b G H l out G1 H2 acc := ⟨g.st.draw x, g.nl, g.lb, g.gl, x _ _ g.lb g.el, g.ds⟩
theorem GrowB.new (g : GrowB K b G H l out G1 H1 acc) (h : H1 p = none) (n : p ≠ b) : GrowB K b G H l out (L2.upd G1 p o) (L2.upd H1 p o) acc :=
  have np : l ≠ p := ne_of_none g.el h
  ⟨g.st.new h n, g.nl, g.lb, by rw [upd_ne np]; exact g.gl, by rw [upd_ne np]; exact g.el, DpAll.same (Same.add (Same.free g.st.vw h)) g.ds⟩
theorem GrowB.mut (g : GrowB K b G H l out G1 H1 acc) (h : H1 p = none) : GrowB K b G H l out G1 (L2.upd H1 p o) acc :=
  have np : l ≠ p := ne_of_none g.el h
  ⟨g.st.mut h, g.nl, g.lb, g.gl, by rw [upd_ne np]; exact g.el, g.ds⟩
theorem GrowB.step (g : GrowB K b G H l out G1 H1 acc) (hb : H1 b ≠ none) (t : XR.Step G1 H1 G2 H2) : GrowB K b G H l out G2 H2 acc :=
  ⟨g.st.step hb t, g.nl, g.lb, t.fr _ (by rw [g.el]; exact fun z => by cases z) g.gl, t.hh _ _ g.el, DpAll.same t.gg g.ds⟩
theorem GrowB.add (g : GrowB K b G H l out G1 H1 acc) {v : V} {d : PyData} (q : Dp K G1 v d) : GrowB K b G H l (out ++ [d]) G1 (L2.upd H1 l (.lst (acc ++ [v]))) (acc ++ [v]) :=
  ⟨g.st.upd g.nl g.gl, g.nl, g.lb, g.gl, upd_same, DpAll.snoc g.ds q⟩
theorem GrowB.len (g : GrowB K b G H l out G1 H1 acc) : acc.length = out.length := XR.DpAll.length g.ds
theorem GrowB.freeze (g : GrowB K b G H l out G1 H1 acc) : StB b G H (L2.upd G1 l (.lst acc)) H1 ∧ Dp K (L2.upd G1 l (.lst acc)) (.ref l) (.list out) :=
  ⟨g.st.freeze g.lb g.gl g.el, .lst (SqL.of upd_same) (DpAll.same (Same.add g.gl) g.ds)⟩
end
/-! ### options -/
def oV : Option Int → V
  | none => .non
  | some z => .int z
def oD : Option Int → PyData
  | none => .none
  | some z => .int z
theorem DpAll.opts {K : PySem.W.Frag} {G : Hp} : ∀ (ns : List (Option Int)), DpAll K G (ns.map oV) (ns.map oD)
  | [] => .nil
  | none :: r => .cons .non (DpAll.opts r)
  | some n :: r => .cons (.int n) (DpAll.opts r)
theorem DpAll.opts_inv {K : PySem.W.Frag} {G : Hp} : ∀ {xs : List V} {ns : List (Option Int)}, DpAll K G xs (ns.map oD) → xs = ns.map oV
  | _, [], .nil => rfl
  | _, none :: _, .cons a b => by rw [Dp.non_inv a, DpAll.opts_inv b]; rfl
  | _, some _ :: _, .cons a b => by rw [Dp.int_inv a, DpAll.opts_inv b]; rfl
section
variable {K : PySem.W.Frag} {G H G' H' : Hp} {l : Addr} {acc : List V} {out : List PyData} {α : Type} {cs : List α} {i : Nat} {c : α} {v : V} {d : PyData}
theorem LcI.vw (h : LcI K G H l out H') : Same G H' := let ⟨_, _, g⟩ := h; g.st.gg.trans g.st.vw
theorem LcI.hh (h : LcI K G H l out H') : Same H H' := let ⟨_, _, g⟩ := h; g.st.hh
theorem Grow.vv (g : Grow K G H l out G' H' acc) : Same G H' := g.st.gg.trans g.st.vw
theorem LcI.start_map {f : α → PyData} (v : Same G H) (h : H l = none) : LcI K G H l ((cs.take 0).map f) (upd H l (.lst [])) := LcI.start v h
theorem LcI.start_fm {f : α → Option PyData} (v : Same G H) (h : H l = none) : LcI K G H l ((cs.take 0).filterMap f) (upd H l (.lst [])) := LcI.start v h
theorem Grow.push_map {f : α → PyData} (g : Grow K G H l ((cs.take i).map f) G' H' acc) (hc : cs[i]? = some c) (q : Dp K G' v (f c)) (hl : cs.length ≤ 1000000) :
    ∃ acc, H' l = some (.lst acc) ∧ acc.length < sizeLine ∧ LcI K G H l ((cs.take (i + 1)).map f) (upd H' l (.lst (acc ++ [v]))) := by
  rw [take_one hc, List.map_append]
  refine g.push q ?_
  rw [List.length_map, List.length_take, sizeLine_eq]
  omega
theorem Grow.push_some {f : α → Option PyData} (g : Grow K G H l ((cs.take i).filterMap f) G' H' acc) (hc : cs[i]? = some c) (e : f c = some d) (q : Dp K G' v d) (hl : cs.length ≤ 1000000) :
    ∃ acc, H' l = some (.lst acc) ∧ acc.length < sizeLine ∧ LcI K G H l ((cs.take (i + 1)).filterMap f) (upd H' l (.lst (acc ++ [v]))) := by
  have e2 : (cs.take (i + 1)).filterMap f = (cs.take i).filterMap f ++ [d] := by rw [take_one hc, List.filterMap_append]; simp [e]
  rw [e2]
  refine g.push q ?_
  have := List.length_filterMap_le f (cs.take i)
  rw [List.length_take] at this
  rw [sizeLine_eq]
  omega
theorem Grow.push_none {f : α → Option PyData} (g : Grow K G H l ((cs.take i).filterMap f) G' H' acc) (hc : cs[i]? = some c) (e : f c = none) : LcI K G H l ((cs.take (i + 1)).filterMap f) H' := by
  have e2 : (cs.take (i + 1)).filterMap f = (cs.take i).filterMap f := by rw [take_one hc, List.filterMap_append]; simp [e]
  rw [e2]
  exact ⟨_, _, g⟩
theorem LcI.all_map {f : α → PyData} {n : Nat} (h : LcI K G H l ((cs.take n).map f) H') (e : cs.length ≤ n) : ∃ G' acc, Grow K G H l (cs.map f) G' H' acc := by
  rw [List.take_of_length_le e] at h
  exact h
theorem LcI.all_fm {f : α → Option PyData} {n : Nat} (h : LcI K G H l ((cs.take n).filterMap f) H') (e : cs.length ≤ n) : ∃ G' acc, Grow K G H l (cs.filterMap f) G' H' acc := by
  rw [List.take_of_length_le e] at h
  exact h
end
theorem at0 {α : Type} {x : α} {xs : List α} : atI (x :: xs) 0 = some x := atI_nat (j := 0) rfl
theorem at1 {α : Type} {x y : α} {xs : List α} : atI (x :: y :: xs) 1 = some y := atI_nat (j := 1) rfl
theorem ix_seqb {X : Cx} {s : Shared} {H : Hp} {sc : Scope} {ce : Env} {fp : List Addr} : IxR (X.blk s H sc ce fp) (rIx X.K) := ix_seq
theorem ints_at {P : Int → Prop} (ns : List Int) {i : Int} (h0 : 0 ≤ i) (h : i < (ns.length : Int)) (p : ∀ n ∈ ns, P n) : ∃ z, atI (ns.map V.int) i = some (.int z) ∧ P z := by
  have hl : i.toNat < ns.length := by omega
  refine ⟨ns[i.toNat], at_of (j := i.toNat) (by omega) ?_, p _ (List.getElem_mem hl)⟩
  rw [List.getElem?_map, List.getElem?_eq_getElem hl] <;> rfl
theorem GrowB.base {K : PySem.W.Frag} {b l : Addr} {G0 H0 G H G1 H1 : Hp} {out : List PyData} {acc : List V} (s : StB b G0 H0 G H) (g : GrowB K b G H l out G1 H1 acc) : GrowB K b G0 H0 l out G1 H1 acc :=
  ⟨s.trans g.st, none_backB s.hh g.lb g.nl, g.lb, g.gl, g.el, g.ds⟩
theorem tyT {K : PySem.W.Frag} {H : Hp} {a : Addr} {xs : List V} (h : SqT K H a xs) : TyX K H (.ref a) (.type "tuple") := by
  rcases h with (h | ⟨o, h⟩) | ⟨o, its, n, e, c, _⟩
  · exact .base (.tup h)
  · exact .fTuple h
  · exact .kTuple e c
theorem tyL {K : PySem.W.Frag} {H : Hp} {a : Addr} {xs : List V} (h : SqL K H a xs) : TyX K H (.ref a) (.type "list") := by
  rcases h with (h | ⟨o, h⟩) | ⟨o, its, n, e, c, _⟩
  · exact .base (.lst h)
  · exact .base (.frz h)
  · exact .kList e c
theorem pairs_can : ∀ cs : List (Int × Int), PyData.canLayAll0 (pDs cs) = true
  | [] => rfl
  | _ :: r => by
    show (PyData.canLay0 _ && PyData.canLayAll0 (pDs r)) = true
    rw [pairs_can r]
    rfl
theorem pairs_eqv : ∀ cs : List (Int × Int), PyData.eqvAll (pDs cs) (pDs cs) = true
  | [] => rfl
  | c :: r => by
    show (PyData.eqv (pD c) (pD c) && PyData.eqvAll (pDs r) (pDs r)) = true
    rw [pairs_eqv r]
    simp [PyData.eqv, PyData.eqvAll]
theorem pairs_depth : ∀ cs : List (Int × Int), PyData.depthAll (pDs cs) ≤ 8
  | [] => by decide
  | c :: r => by
    have := pairs_depth r
    show max (PyData.depth (pD c)) (PyData.depthAll (pDs r)) ≤ 8
    have h : PyData.depth (pD c) ≤ 8 := by simp [PyData.depth, PyData.depthAll]
    omega
theorem shaped_pDs (cs : List (Int × Int)) : SeqAt.shaped (.list (pDs cs)) = true := by
  show (PyData.canLayAll0 (pDs cs) && decide (PyData.depthAll (pDs cs) + 1 ≤ 64)) = true
  rw [pairs_can]
  have := pairs_depth cs
  simp
  omega
theorem eqv_pDs (cs : List (Int × Int)) : PyData.eqv (.list (pDs cs)) (.list (pDs cs)) = true := pairs_eqv cs
theorem eqv_nil (cs : List (Int × Int)) : PyData.eqv (.list (pDs cs)) (.list []) = decide (cs = []) := by
  cases cs with
  | nil => rfl
  | cons c r => rfl
theorem same_nil {H : Hp} : Same (fun _ => none) H := fun _ _ e => by cases e
theorem snoc_inj {α : Type} {I J : List α} {x y : α} (h : I ++ [x] = J ++ [y]) : I = J ∧ x = y := by
  have := List.append_inj' h rfl
  exact ⟨this.1, by simpa using this.2⟩
theorem DpAll.snoc_inv {K : PySem.W.Frag} {G : Hp} {d : PyData} : ∀ {ds : List PyData} {xs : List V}, DpAll K G xs (ds ++ [d]) → ∃ ys y, xs = ys ++ [y] ∧ DpAll K G ys ds ∧ Dp K G y d
  | [], _, .cons a .nil => ⟨[], _, rfl, .nil, a⟩
  | _ :: r, _, .cons a b => by
    obtain ⟨ys, y, rfl, q, z⟩ := DpAll.snoc_inv (ds := r) b
    exact ⟨_ :: ys, y, rfl, .cons a q, z⟩
theorem ixN_last {α : Type} (xs : List α) (v : α) : ixN (xs ++ [v]).length (-1) = some xs.length := by
  unfold ixN
  rw [if_neg (by decide), if_pos (by rw [List.length_append]; simp; omega), List.length_append]
  congr 1
  simp
  omega
theorem set_last {α : Type} (xs : List α) (v w : α) : (xs ++ [v]).set xs.length w = xs ++ [w] := by
  rw [List.set_append_right _ _ (Nat.le_refl _), Nat.sub_self]
  rfl
section
variable {K : PySem.W.Frag} {G H G' H' : Hp} {l : Addr} {out : List PyData} {acc : List V} {d e : PyData} {v : V}
/-- the list's last item is set -/
theorem Grow.setLast (g : Grow K G H l (out ++ [d]) G' H' acc) (q : Dp K G' v e) : ∃ j, ixN acc.length (-1) = some j ∧ Grow K G H l (out ++ [e]) G' (L2.upd H' l (.lst (acc.set j v))) (acc.set j v) := by
  obtain ⟨ys, y, rfl, a, b⟩ := DpAll.snoc_inv g.ds
  refine ⟨ys.length, ixN_last _ _, ?_⟩
  rw [set_last]
  exact ⟨g.st.upd g.nl g.gl, g.nl, g.gl, upd_same, DpAll.snoc a q⟩
end
theorem op_in_seqb {X : Cx} {s : Shared} {H : Hp} {sc : Scope} {ce : Env} {fp : List Addr} : OpR (X.blk s H sc ce fp) (compareOp .In) (rIn X.K false) := op_in_seq
theorem op_notIn_seqb {X : Cx} {s : Shared} {H : Hp} {sc : Scope} {ce : Env} {fp : List Addr} : OpR (X.blk s H sc ce fp) (compareOp .NotIn) (rIn X.K true) := op_notIn_seq
theorem inV_ints (z : Int) : ∀ ns : List Int, inV (.int z) (ns.map V.int) = decide (z ∈ ns)
  | [] => rfl
  | n :: r => by
    have ih := inV_ints z r
    unfold inV at *
    rw [List.map_cons, List.any_cons, ih, Bool.eq_iff_iff]
    have e : eqV (.int n) (.int z) = decide (n = z) := by
      show (n == z) = decide (n = z)
      rw [Bool.eq_iff_iff]
      simp
    rw [e]
    simp only [Bool.or_eq_true, decide_eq_true_eq, List.mem_cons]
    exact or_congr_left ⟨Eq.symm, Eq.symm⟩
theorem flat_ints : ∀ ns : List Int, (ns.map V.int).all flatV = true
  | [] => rfl
  | _ :: r => by
    rw [List.map_cons, List.all_cons, flat_ints r]
    rfl
theorem ints_can : ∀ ns : List Int, PyData.canLayAll0 (ns.map PyData.int) = true
  | [] => rfl
  | _ :: r => by
    show (PyData.canLay0 _ && PyData.canLayAll0 (r.map PyData.int)) = true
    rw [ints_can r]
    rfl
theorem ints_depth : ∀ ns : List Int, PyData.depthAll (ns.map PyData.int) ≤ 8
  | [] => by decide
  | c :: r => by
    have := ints_depth r
    show max (PyData.depth (.int c)) (PyData.depthAll (r.map PyData.int)) ≤ 8
    have h : PyData.depth (.int c) ≤ 8 := by simp [PyData.depth]
    omega
theorem shaped_ints (ns : List Int) : SeqAt.shaped (.list (ns.map PyData.int)) = true := by
  show (PyData.canLayAll0 (ns.map PyData.int) && decide (PyData.depthAll (ns.map PyData.int) + 1 ≤ 64)) = true
  rw [ints_can]
  have := ints_depth ns
  simp
  omega
theorem eqv_ints : ∀ ns : List Int, PyData.eqv (.list (ns.map PyData.int)) (.list (ns.map PyData.int)) = true := by
  have h : ∀ ns : List Int, PyData.eqvAll (ns.map PyData.int) (ns.map PyData.int) = true := fun ns => by
    induction ns with
    | nil => rfl
    | cons c r ih =>
      show (PyData.eqv (.int c) (.int c) && PyData.eqvAll (r.map PyData.int) (r.map PyData.int)) = true
      rw [ih]
      simp [PyData.eqv]
  exact h
theorem eqv_empty (ds : List PyData) : PyData.eqv (.list ds) (.list []) = ds.isEmpty := by
  cases ds <;> rfl
end XR
set_option Elab.async false
set_option linter.all false
set_option maxRecDepth 100000
set_option maxHeartbeats 4000000
/-! walks over a list or a tuple, also in enumerate and zip -/
namespace XR
open PySem PySem.Spec PyProof.Rows L2
/-- a list (k) or a tuple -/
def SqK (K : PySem.W.Frag) (k : Bool) (H : Hp) (a : Addr) (xs : List V) : Prop := if k then SqL K H a xs else SqT K H a xs
def IsSq (k : Bool) (h : Heap) (a : Addr) (items : Array Value) : Prop := if k then h.IsList a items else h.IsTuple a items
def IsSqIter (k : Bool) (h : Heap) (it a : Addr) (i : Nat) : Prop := if k then h.IsListIter it a i else h.IsTupleIter it a i
def sqObj (k : Bool) (a : Addr) : Obj := if k then { cls := .type "list_iterator", data := .fields #[.ref a, .int 0 0] } else { cls := .type "tuple_iterator", data := .fields #[.ref a, .int 0 0] }
theorem SqK.same {K : PySem.W.Frag} {k : Bool} {G H : Hp} {a : Addr} {xs : List V} (h : SqK K k G a xs) (v : Same G H) : SqK K k H a xs := by
  cases k
  · exact SqT.same h v
  · exact SqL.same h v
theorem draws_sq {prog : Program} {w : World} {A : Around} (hh : A.handled = none) (k : Bool) (it a : Addr) (hne : a ≠ it) (items : Array Value) :
    Draws prog w A it [it, a] items.size (fun i v => items[i]? = some v) (fun i h => IsSqIter k h it a i ∧ IsSq k h a items) := by
  cases k
  · exact Draws.tuple hh it a hne items
  · exact Draws.list hh it a hne items
theorem begins_sq (k : Bool) (a : Addr) (items : Array Value) : Begins (.ref a) (sqObj k a) fun h => IsSq k h a items := by
  cases k
  · exact begins_tuple a items
  · exact begins_list a items
theorem iter_at {k : Bool} {h : Heap} {it a : Addr} {i : Nat} (st : IsSqIter k h it a i) : ∃ (o : Obj) (fs : Array Value), h.get? it = some o ∧ o.data = .fields fs := by
  cases k <;> exact (let ⟨o, e, _, d⟩ := st; ⟨o, _, e, d⟩)
theorem iter_keep {k : Bool} {h h' : Heap} {it a : Addr} {i : Nat} (st : IsSqIter k h it a i) (c : ∀ o, h.get? it = some o → h'.get? it = some o) : IsSqIter k h' it a i := by
  cases k <;> exact (let ⟨o, e, r⟩ := st; ⟨o, c o e, r⟩)
theorem iter_new {k : Bool} {h : Heap} {it a : Addr} (e : h.get? it = some (sqObj k a)) : IsSqIter k h it a 0 := by
  cases k <;> exact ⟨_, e, rfl, rfl⟩
theorem sq_at {k : Bool} {h : Heap} {a : Addr} {items : Array Value} (st : IsSq k h a items) : ∃ (o : Obj) (n : Nat), h.get? a = some o ∧ o.data = .seq items n := by
  cases k <;> exact (let ⟨o, e, _, n, d⟩ := st; ⟨o, n, e, d⟩)
theorem sq_ne {k k' : Bool} {h : Heap} {it a b : Addr} {i : Nat} {items : Array Value} (q : IsSq k h a items) (st : IsSqIter k' h it b i) : a ≠ it := fun z => by
  obtain ⟨o, n, e, d⟩ := sq_at q
  obtain ⟨o', fs, e', d'⟩ := iter_at st
  rw [z, e'] at e
  cases e
  rw [d] at d'
  cases d'
theorem inv_sq {X : Cx} {pins : List (Addr × Obj)} {σ : L2.St} {H : Hp} {s : Shared} {k : Bool} {a : Addr} {xs : List V} (I : Inv X pins σ H s) (h : SqK X.K k H a xs) : ∃ its : List Value, Vals xs its ∧ IsSq k s.heap a its.toArray ∧ a < s.heap.objs.size := by
  cases k
  · obtain ⟨its, r, p, _⟩ := I.tuple h
    have p' : s.heap.IsTuple a its.toArray := p
    exact ⟨its, r, p', (let ⟨o, e, _⟩ := p'; Heap.lt_size e)⟩
  · obtain ⟨its, r, p, _⟩ := I.list h
    exact ⟨its, r, p.isList, p.lt⟩
theorem inv_inj {X : Cx} {pins : List (Addr × Obj)} {σ : L2.St} {H : Hp} {s : Shared} {k : Bool} {a : Addr} {xs ys : List V} (I : Inv X pins σ H s) (h : SqK X.K k H a xs) (h' : SqK X.K k H a ys) : xs = ys := by
  cases k
  · exact I.tuple_inj h h'
  · exact I.list_inj h h'
/-! ### enumerate -/
set_option maxHeartbeats 1000000 in
theorem meets_enum1 {v : Value} {o : Obj} {H : Heap → Prop} (B : Begins v o H) :
    Meets (Builtin.«enumerate.__new__» ⟨[.type "enumerate", v], []⟩) (fun _ R s => H s.heap ∧
      R (.ok (.ret (.ref (s.heap.push o).objs.size))) { s with heap := (s.heap.push o).push { cls := .type "enumerate", data := .fields #[.none, .bool false, .ref s.heap.objs.size, rawInt 0, .none, .none] } }) :=
  .of_wp fun prog w A R s h => by
    obtain ⟨hp, g, d, tk, os⟩ := s; obtain ⟨h1, h⟩ := h
    have hsub := sub_enumerate
    have q1 : ∀ {A' : Around} {E : Value → Shared → Prop} {Q : Value → Shared → Prop}, Q (.ref hp.objs.size) ⟨hp.push o, g, d, tk, os⟩ → wpAny (model prog w) A' (pyIter v) Q E ⟨hp, g, d, tk, os⟩ :=
      fun q => B.iter prog w _ _ ⟨hp, g, d, tk, os⟩ _ h1 q
    wp_walk using q1
    refine wpAny_stack_any fun st => wpAny_pure ?_
    split
    · rename_i c _ _ _ _ _
      cases (c == Value.type "enumerate")
      · wp_walk using q1
        exact ⟨_, rfl, h⟩
      · wp_walk using q1
        exact ⟨_, rfl, h⟩
    · wp_walk using q1
      exact ⟨_, rfl, h⟩
theorem call_enum1 {prog : Program} {w : World} {A : Around} {E : Value → Shared → Prop} {s : Shared} {v : Value} {o : Obj} {H : Heap → Prop} {Q : Value → Shared → Prop} (B : Begins v o H) (h1 : H s.heap)
    (h : ∀ h', IsEnum h' (s.heap.objs.size + 1) s.heap.objs.size 0 .none → h'.get? s.heap.objs.size = some o → h'.objs.size = s.heap.objs.size + 2 →
      (∀ b o, s.heap.get? b = some o → h'.get? b = some o) → Q (.ref (s.heap.objs.size + 1)) { s with heap := h' }) :
    wpAny (model prog w) A (call (.type "enumerate") [v]) Q E s := by
  refine callType_new F.called_enumerate (by decide) (F.typeCall_enumerate_1 _) (F.newCall_enumerate_1 _) (fun obj => F.args_object_init_2 obj _) F.entry_enumerate_new
    (meets_enum1 B) ⟨h1, ?_⟩
  have hz : (s.heap.push o).objs.size = s.heap.objs.size + 1 := Heap.size_push ..
  show _ ∧ _
  rw [hz]
  have he : IsEnum ((s.heap.push o).push { cls := .type "enumerate", data := .fields #[.none, .bool false, .ref s.heap.objs.size, rawInt 0, .none, .none] }) (s.heap.objs.size + 1) s.heap.objs.size 0 .none := by
    have := Heap.get?_push_size (s.heap.push o) (o := { cls := .type "enumerate", data := .fields #[.none, .bool false, .ref s.heap.objs.size, rawInt 0, .none, .none] }) rfl
    rw [hz] at this; exact this
  refine ⟨⟨_, he, rfl⟩, h _ he (Heap.get?_push_of_some _ (Heap.get?_push_size _ B.free)) (by rw [Heap.size_push, hz]) fun b o x => Heap.get?_push_of_some _ (Heap.get?_push_of_some _ x)⟩
theorem wpAny_pyNext_enum_endDK {prog : Program} {w : World} {A : Around} {E : Value → Shared → Prop} {s : Shared} {e it l : Addr} {i : Nat} {c : Int} {items : Array Value} {old : Value} {Q : Option Value → Shared → Prop} (hh : A.handled = none)
    (he : IsEnum s.heap e it c old) (hit : s.heap.IsTupleIter it l i) (hl : s.heap.IsTuple l items) (hx : items[i]? = none)
    (hQ : ∀ h', Heap.ExtBut it s.heap h' → Q none { s with heap := h' }) : wpAny (model prog w) A (pyNext (.ref e)) Q E s := by
  have hT : s.TypeIs (.ref e) "enumerate" := ⟨_, he, rfl⟩
  unfold pyNext
  refine wpAny_bind (wpAny_attempt (wpAny_callSpecial?_slot (name := Str.ofString "__next__") hT F.slot_enumerate_next
    (wpAny_call_entry F.slot_enumerate_next hT F.entry_enumerate_next ?_ (F.args_enumerate_next_1 _))))
  show wpAny _ _ (field (.ref e) 2 >>= _) _ _ _
  refine wpAny_bind (wpAny_field he rfl (x := .ref it) rfl ?_)
  refine wpAny_bind (wpAny_nextOf_tuple_end hh hit hl hx fun h' x he' hx' => ?_)
  obtain ⟨o, ho, hc⟩ := hx'
  refine wpAny_bind (wpAny_isInstance (T := "StopIteration") (b := true) ⟨o, ho, hc⟩ isSubtype_stop ?_)
  exact wpAny_pure (hQ _ he')
/-- a new pair at a turn -/
def ItK2 (go : Nat → Hp → Prop) (at_ : Nat → Hp → V → V → Prop) (stop : Nat → Hp → Prop) : It :=
  ⟨go, fun i H v H' => ∃ T x y, v = .ref T ∧ H T = none ∧ H' = upd H T (.tup [x, y]) ∧ at_ i H x y, stop⟩
def IteK (K : PySem.W.Frag) (k : Bool) (a : Addr) : It :=
  ItK2 (fun i H => ∃ (xs : List V) (x : V), SqK K k H a xs ∧ xs[i]? = some x) (fun i H x y => x = .int (i : Nat) ∧ ∀ xs, SqK K k H a xs → xs[i]? = some y) (fun i H => ∃ xs : List V, SqK K k H a xs ∧ xs.length ≤ i)
theorem enum_ne {h : Heap} {e it : Addr} {i : Int} {old : Value} {k : Bool} {a : Addr} {items : Array Value} (he : IsEnum h e it i old) (q : IsSq k h a items) : e ≠ a := fun z => by
  obtain ⟨o, n, e', d⟩ := sq_at q
  have he' : h.get? e = some _ := he
  rw [← z, he'] at e'
  cases e'
  cases d
theorem turn_enumK {P : Program} {w : World} {K : PySem.W.Frag} {elts : List Expr} {kk : Nat} {tpos : Pos} (k : Bool) (a e it : Addr) :
    Turn P w K (.Tuple elts kk tpos) (IteK K k a) [e, it] e (fun i h => (∃ old, IsEnum h e it ((i : Nat) : Int) old) ∧ IsSqIter k h it a i ∧ e ≠ it) where
  mem := by simp
  obj := fun i h st b hb => by
    obtain ⟨⟨old, he⟩, hi, _⟩ := st
    obtain ⟨o, fs, ho, hd⟩ := iter_at hi
    have e' : b = e ∨ b = it := by simpa using hb
    rcases e' with z | z
    · rw [z]; exact ⟨_, he, fun v q => nomatch q⟩
    · rw [z]; exact ⟨o, ho, fun v q => by rw [hd] at q; cases q⟩
  keep := fun i h h' st c => let ⟨⟨old, he⟩, hi, hne⟩ := st; ⟨⟨old, c e (by simp) _ he⟩, iter_keep hi fun o q => c it (by simp) o q, hne⟩
  item := by
    intro X hP hw hK hc i pins s σ H E I hf st hg
    subst hP hw hK
    obtain ⟨⟨old, he⟩, hit, hne⟩ := st
    obtain ⟨xs, x, hq, hx⟩ := hg
    obtain ⟨its, rv, p, hlt⟩ := inv_sq I hq
    obtain ⟨u, hu, ru⟩ := rv.get hx
    have hel : e < s.heap.objs.size := Heap.lt_size (show s.heap.get? e = some _ from he)
    have hil : it < s.heap.objs.size := by obtain ⟨_, _, q, _⟩ := iter_at hit; exact Heap.lt_size q
    have Gs := GoesN.enumFrom (elts := elts) (x1 := kk) (pos := tpos) 0 (draws_sq (prog := X.prog) (w := X.w) (A := X.A.in1) (show X.A.in1.handled = none from I.ok.hd hc) k it a (sq_ne p hit) its.toArray) e hne (by
      intro hm
      rcases List.mem_cons.mp hm with z | z
      · exact hne z
      · exact enum_ne he p (List.mem_singleton.mp z)) (by simp)
    have hil2 : i < its.toArray.size := by
      have := (List.getElem?_eq_some_iff.mp hu).1
      simpa using this
    refine Gs.goes i s _ E hil2 ⟨⟨old, by rw [Int.zero_add]; exact he⟩, hit, p⟩ fun v h' tk Y st' hk htk => ?_
    obtain ⟨T, t, y, rfl, hTn, hy, hT⟩ := Y
    obtain ⟨⟨old', he'⟩, hit', _⟩ := st'
    have ey : y = u := by
      have h3 : its.toArray[i]? = some u := by simpa using hu
      rw [hy] at h3
      exact Option.some.inj h3
    subst ey
    have new : ObjOk X.prog X.w (upd H T (.tup [.int (i : Nat), x])) h' T (.tup [.int (i : Nat), x]) :=
      ⟨by show 2 ≤ sizeLine; decide, [.int (0 + (i : Int)) t, y], .cons ⟨t, by rw [Int.zero_add]⟩ (.cons ru .nil), hT⟩
    have I1 : Inv X pins σ (upd H T (.tup [.int (i : Nat), x])) { s with heap := h', toks := tk } := I.turnedNew (ch := [e, it]) hk hf hTn new
    refine ⟨.ref T, _, I1, rfl, ⟨T, _, x, rfl, I.hok.fresh hTn, rfl, rfl, fun ys hy => by rw [inv_inj I hy hq]; exact hx⟩, ⟨⟨old', ?_⟩, hit', hne⟩, fun b hb => ?_⟩
    · rw [Int.zero_add] at he'
      exact he'
    · have hb' : b < s.heap.objs.size := by
        have e' : b = e ∨ b = it := by simpa using hb
        rcases e' with z | z
        · rw [z]; exact hel
        · rw [z]; exact hil
      rw [upd_ne (Nat.ne_of_lt (Nat.lt_of_lt_of_le hb' hTn))]
      exact (hf b hb).1
  done := by
    intro X hP hw hK hc i pins s σ H E I hf st hg
    subst hP hw hK
    obtain ⟨⟨old, he⟩, hit, hne⟩ := st
    obtain ⟨xs, hq, hx⟩ := hg
    obtain ⟨its, rv, p, hlt⟩ := inv_sq I hq
    have hl := rv.length
    cases k
    · refine wpAny_pyNext_enum_endDK (I.ok.hd hc) he hit p (by simp; omega) fun h' eb => ⟨rfl, ?_⟩
      obtain ⟨f0, f1, f2, f3, f4, f5⟩ := hf it (by simp)
      exact I.turned (t' := s.toks) (fun b o hb q => eb b o hb q) f0 f1 f3 f4 f5
    · refine wpAny_pyNext_enum_end (I.ok.hd hc) he hit p (by simp; omega) fun h' eb => ⟨rfl, ?_⟩
      obtain ⟨f0, f1, f2, f3, f4, f5⟩ := hf it (by simp)
      exact I.turned (t' := s.toks) (fun b o hb q => eb b o hb q) f0 f1 f3 f4 f5
  self := fun A i s Q E st h => let ⟨⟨_, he⟩, _⟩ := st; wpAny_pyIter_enum he h
/-! ### what is walked -/
def SqA (K : PySem.W.Frag) (H : Hp) (a : Addr) (xs : List V) : Prop := SqL K H a xs ∨ SqT K H a xs
theorem SqA.same {K : PySem.W.Frag} {G H : Hp} {a : Addr} {xs : List V} (h : SqA K G a xs) (v : Same G H) : SqA K H a xs := h.imp (fun z => SqL.same z v) (fun z => SqT.same z v)
theorem SqA.k {K : PySem.W.Frag} {H : Hp} {a : Addr} {xs : List V} (h : SqA K H a xs) : ∃ k, SqK K k H a xs := by
  rcases h with h | h
  · exact ⟨true, h⟩
  · exact ⟨false, h⟩
def iSq (K : PySem.W.Frag) (tl : TE) : TI := fun σ H R => tl σ H fun x H1 => ∃ a xs G, x = .ref a ∧ SqA K G a xs ∧ Same G H1 ∧ ∀ J, Walk J xs.length (Same G) (YAt xs) → R J H1
theorem pi_sq {X : Cx} {tg : Expr} {l : Expr} {tl : TE} (hl : PE X l tl) : PI X tg l (iSq X.K tl) := by
  refine ⟨fun pins s σ H R I h => ?_⟩
  refine thn (hl.run pins s σ H _ I h) fun v s1 ⟨x, H1, I1, r1, q1⟩ => ?_
  obtain ⟨a, xs, G, e, hq, hv, q⟩ := q1
  subst e
  cases r1
  rcases hq with hq | hq
  · obtain ⟨its, rv, p, hz⟩ := I1.list (SqL.same hq hv)
    refine wpAny_pyIter_list p.isList ?_
    refine ⟨s1.heap.objs.size, [s1.heap.objs.size], _, _, H1, rfl, I1.kept (t' := s1.toks) fun b o e => Heap.get?_push_of_some _ e, turn_list a _, ⟨_, Heap.get?_push_size _ rfl, rfl, rfl⟩, fun b hb => ?_, q _ (walk_list.mono (fun H x => SqL.same hq x) fun _ _ _ _ _ _ y => y)⟩
    have e : b = s1.heap.objs.size := by simpa using hb
    subst e
    exact I1.fpOk (Nat.le_refl _) (I1.hok.fresh (Nat.le_refl _))
  · obtain ⟨its, rv, p, hz⟩ := I1.tuple (SqT.same hq hv)
    refine wpAny_pyIter_tuple (show s1.heap.IsTuple a its.toArray from p) ?_
    refine ⟨s1.heap.objs.size, [s1.heap.objs.size], _, _, H1, rfl, I1.kept (t' := s1.toks) fun b o e => Heap.get?_push_of_some _ e, turn_tuple a _, ⟨_, Heap.get?_push_size _ rfl, rfl, rfl⟩, fun b hb => ?_, q _ (walk_tup.mono (fun H x => SqT.same hq x) fun _ _ _ _ _ _ y => y)⟩
    have e : b = s1.heap.objs.size := by simpa using hb
    subst e
    exact I1.fpOk (Nat.le_refl _) (I1.hok.fresh (Nat.le_refl _))
theorem walk_enumK {K : PySem.W.Frag} {k : Bool} {a : Addr} {xs : List V} : Walk (IteK K k a) xs.length (fun H => SqK K k H a xs) (YPair (fun i => some (.int (i : Nat))) (fun i => xs[i]?)) := by
  refine ⟨fun i _ hi q => ⟨xs, xs[i], q, by simp [hi]⟩, fun _ q => ⟨xs, q, Nat.le_refl _⟩, fun i H v H' _ q y => ?_⟩
  obtain ⟨T, x, y, h1, h2, h3, h4, h5⟩ := y
  exact ⟨T, x, y, h1, h2, h3, by rw [h4], h5 xs q⟩
def iEnumQ (K : PySem.W.Frag) (ta : TA) : TI := fun σ H R => ta σ H fun vs H1 => ∃ a xs G, vs = [.ref a] ∧ SqA K G a xs ∧ Same G H1 ∧ ∀ J, Walk J xs.length (Same G) (YPair (fun i => some (.int (i : Nat))) (fun i => xs[i]?)) → R J H1
theorem pi_enumQ {X : Cx} {e : Expr} {ta : TA} {p pos tpos : Pos} {elts : List Expr} {kk : Nat} (hg : Gl X "enumerate") (hm : X.mg "enumerate" = none) (ha : PA X [e] ta) (hs : starEach [e] X.env = [(false, eval e X.env)] := by rfl) :
    PI X (.Tuple elts kk tpos) (.Call (.Name "enumerate" p) [e] [] pos) (iEnumQ X.K ta) := by
  refine ⟨fun pins s σ H R I h => ?_⟩
  refine Call_ (ld_blt I hg hm boot_enumerate (PyProof.Rows.callWith_type1 (thn (ha.run pos pins s σ H _ I h) fun us s1 ⟨vs, H1, I1, r1, q1⟩ => ?_) hs rfl))
  obtain ⟨a, xs, G, ex, hq, hv, q⟩ := q1
  subst ex
  cases r1 with
  | cons r rr =>
    cases rr
    cases r
    obtain ⟨k, hk⟩ := hq.k
    obtain ⟨its, rv, p', hz⟩ := inv_sq I1 (SqK.same hk hv)
    refine call_enum1 (begins_sq k a its.toArray) p' fun h' he hit hsz hk' => wpAny_pyIter_enum he ?_
    have I2 : Inv X pins σ H1 { s1 with heap := h' } := I1.kept (t' := s1.toks) hk'
    refine ⟨s1.heap.objs.size + 1, [s1.heap.objs.size + 1, s1.heap.objs.size], _, _, H1, rfl, I2, turn_enumK k a (s1.heap.objs.size + 1) s1.heap.objs.size, ⟨⟨.none, he⟩, iter_new hit, Nat.succ_ne_self _⟩, fun b hb => ?_, q _ (walk_enumK.mono (fun H x => SqK.same hk x) fun _ _ _ _ _ _ y => y)⟩
    have e' : b = s1.heap.objs.size + 1 ∨ b = s1.heap.objs.size := by simpa using hb
    have hle : s1.heap.objs.size ≤ b := by
      rcases e' with z | z
      · rw [z]; exact Nat.le_add_right _ _
      · rw [z]; exact Nat.le_refl _
    exact I1.fpOk hle (I1.hok.fresh hle)
/-! ### zip of two -/
def ItzK (K : PySem.W.Frag) (k l : Bool) (a b : Addr) : It :=
  ItK2 (fun i H => ∃ (xs ys : List V) (x y : V), SqK K k H a xs ∧ SqK K l H b ys ∧ xs[i]? = some x ∧ ys[i]? = some y) (fun i H x y => (∀ xs, SqK K k H a xs → xs[i]? = some x) ∧ ∀ ys, SqK K l H b ys → ys[i]? = some y)
    (fun i H => ∃ xs ys : List V, SqK K k H a xs ∧ SqK K l H b ys ∧ i = min xs.length ys.length)
structure ZA (z TI TO i1 i2 : Addr) : Prop where
  a1 : TI ≠ z
  a2 : TO ≠ z
  a3 : TI ≠ TO
  a4 : TI ≠ i1
  a5 : TI ≠ i2
  a6 : z ≠ i1
  a7 : z ≠ i2
  a8 : TO ≠ i1
  a9 : TO ≠ i2
  aa : i1 ≠ i2
theorem zip_ne {h : Heap} {z TI TO x : Addr} {o : Option Obj} {k : Bool} {a : Addr} {items : Array Value} {w : Value} (he : IsZip h z TI TO w) (q : IsSq k h a items) : z ≠ a := fun y => by
  obtain ⟨o, n, e', d⟩ := sq_at q
  have he' : h.get? z = some _ := he
  rw [← y, he'] at e'
  cases e'
  cases d
theorem zsep {h : Heap} {z TI TO i1 i2 a b : Addr} {i : Nat} {k l : Bool} {it1 it2 : Array Value} {w x y : Value} (Z : ZA z TI TO i1 i2) (hz : IsZip h z TI TO w) (hTO : IsTupOf2 h TO x y) (h1 : IsSqIter k h i1 a i) (h2 : IsSqIter l h i2 b i) (q1 : IsSq k h a it1) (q2 : IsSq l h b it2) (na : TO ≠ a) (nb : TO ≠ b) :
    ZipSep2 z TI TO i1 i2 [i1, a] [i2, b] := by
  have z1 := zip_ne (x := a) (o := none) hz q1
  have z2 := zip_ne (x := a) (o := none) hz q2
  have n1 := sq_ne q1 h1
  have n2 := sq_ne q1 h2
  have n3 := sq_ne q2 h1
  have n4 := sq_ne q2 h2
  refine { TIz := Z.a1, TOz := Z.a2, TITO := Z.a3, TIi1 := Z.a4, mem1 := by simp, zf1 := ?_, Tf1 := ?_, TIi2 := Z.a5, mem2 := by simp, zf2 := ?_, Tf2 := ?_, sep1_2 := ?_, sep2_1 := ?_ }
  · simp [Z.a6, z1]
  · simp [Z.a8, na]
  · simp [Z.a7, z2]
  · simp [Z.a9, nb]
  · simp [Z.aa, n3.symm]
  · simp [Z.aa.symm, n2.symm]
theorem turn_zipK {P : Program} {w : World} {K : PySem.W.Frag} {elts : List Expr} {kk : Nat} {tpos : Pos} (k l : Bool) (a b z TI TO i1 i2 : Addr) (Z : ZA z TI TO i1 i2) (na : TO ≠ a) (nb : TO ≠ b) :
    Turn P w K (.Tuple elts kk tpos) (ItzK K k l a b) [z, TI, TO, i1, i2] z (fun i h => IsZip h z TI TO .none ∧ IsTupOf2 h TI (.ref i1) (.ref i2) ∧ (∃ x y, IsTupOf2 h TO x y) ∧ IsSqIter k h i1 a i ∧ IsSqIter l h i2 b i) where
  mem := by simp
  obj := fun i h st c hc => by
    obtain ⟨hz, hTI, ⟨x, y, hTO⟩, h1, h2⟩ := st
    obtain ⟨o1, f1, e1, d1⟩ := iter_at h1
    obtain ⟨o2, f2, e2, d2⟩ := iter_at h2
    have e' : c = z ∨ c = TI ∨ c = TO ∨ c = i1 ∨ c = i2 := by simpa using hc
    rcases e' with q | q | q | q | q
    · rw [q]; exact ⟨_, hz, fun v q => nomatch q⟩
    · rw [q]; exact ⟨_, hTI, fun v q => nomatch q⟩
    · rw [q]; exact ⟨_, hTO, fun v q => nomatch q⟩
    · rw [q]; exact ⟨o1, e1, fun v q => by rw [d1] at q; cases q⟩
    · rw [q]; exact ⟨o2, e2, fun v q => by rw [d2] at q; cases q⟩
  keep := fun i h h' st c => by
    obtain ⟨hz, hTI, ⟨x, y, hTO⟩, h1, h2⟩ := st
    exact ⟨c z (by simp) _ hz, c TI (by simp) _ hTI, ⟨x, y, c TO (by simp) _ hTO⟩, iter_keep h1 fun o q => c i1 (by simp) o q, iter_keep h2 fun o q => c i2 (by simp) o q⟩
  item := by
    intro X hP hw hK hc i pins s σ H E I hf st hg
    subst hP hw hK
    obtain ⟨hz, hTI, ⟨x0, y0, hTO⟩, h1, h2⟩ := st
    obtain ⟨xs, ys, x, y, hqx, hqy, hx, hy⟩ := hg
    obtain ⟨its, rv, p, _⟩ := inv_sq I hqx
    obtain ⟨its2, rv2, p2, _⟩ := inv_sq I hqy
    obtain ⟨u, hu, ru⟩ := rv.get hx
    obtain ⟨u2, hu2, ru2⟩ := rv2.get hy
    have hh : X.A.in1.handled = none := I.ok.hd hc
    have Gs := GoesN.zip2 (A := X.A) (elts := elts) (x1 := kk) (pos := tpos) (zsep Z hz hTO h1 h2 p p2 na nb) (draws_sq (prog := X.prog) (w := X.w) hh k i1 a (sq_ne p h1) its.toArray) (draws_sq (prog := X.prog) (w := X.w) hh l i2 b (sq_ne p2 h2) its2.toArray)
    have hi1 : i < its.toArray.size := by have := (List.getElem?_eq_some_iff.mp hu).1; simpa using this
    have hi2 : i < its2.toArray.size := by have := (List.getElem?_eq_some_iff.mp hu2).1; simpa using this
    refine Gs.goes i s _ E (by omega) ⟨hz, hTI, ⟨x0, y0, hTO⟩, ⟨h1, p⟩, ⟨h2, p2⟩⟩ fun v h' tk Y st' hk htk => ?_
    obtain ⟨T, v1, v2, rfl, hTn, e1, e2, hT⟩ := Y
    obtain ⟨hz', hTI', hTO', ⟨h1', _⟩, ⟨h2', _⟩⟩ := st'
    have q1 : v1 = u := by
      have h3 : its.toArray[i]? = some u := by simpa using hu
      rw [e1] at h3
      exact Option.some.inj h3
    have q2 : v2 = u2 := by
      have h3 : its2.toArray[i]? = some u2 := by simpa using hu2
      rw [e2] at h3
      exact Option.some.inj h3
    subst q1 q2
    have new : ObjOk X.prog X.w (upd H T (.tup [x, y])) h' T (.tup [x, y]) := ⟨by show 2 ≤ sizeLine; decide, [v1, v2], .cons ru (.cons ru2 .nil), hT⟩
    have I1 : Inv X pins σ (upd H T (.tup [x, y])) { s with heap := h', toks := tk } := I.turnedNew (ch := [z, TI, TO, i1, i2]) (fun c o hb q => hk c o (fun m => hb (by
      have e' : c = z ∨ c = TO ∨ c = i1 ∨ c = i2 := by simpa using m
      rcases e' with q | q | q | q <;> simp [q])) q) hf hTn new
    refine ⟨.ref T, _, I1, rfl, ⟨T, x, y, rfl, I.hok.fresh hTn, rfl, fun ys hy => by rw [inv_inj I hy hqx]; exact hx, fun zs hz => by rw [inv_inj I hz hqy]; exact hy⟩, ⟨hz', hTI', hTO', h1', h2'⟩, fun c hcm => ?_⟩
    have hlt : c < s.heap.objs.size := by
      have e' : c = z ∨ c = TI ∨ c = TO ∨ c = i1 ∨ c = i2 := by simpa using hcm
      rcases e' with q | q | q | q | q
      · rw [q]; exact Heap.lt_size (show s.heap.get? z = some _ from hz)
      · rw [q]; exact Heap.lt_size hTI
      · rw [q]; exact Heap.lt_size hTO
      · rw [q]; obtain ⟨_, _, e1, _⟩ := iter_at h1; exact Heap.lt_size e1
      · rw [q]; obtain ⟨_, _, e2, _⟩ := iter_at h2; exact Heap.lt_size e2
    rw [upd_ne (Nat.ne_of_lt (Nat.lt_of_lt_of_le hlt hTn))]
    exact (hf c hcm).1
  done := by
    intro X hP hw hK hc i pins s σ H E I hf st hg
    subst hP hw hK
    obtain ⟨hz, hTI, ⟨x0, y0, hTO⟩, h1, h2⟩ := st
    obtain ⟨xs, ys, hqx, hqy, hend⟩ := hg
    obtain ⟨its, rv, p, _⟩ := inv_sq I hqx
    obtain ⟨its2, rv2, p2, _⟩ := inv_sq I hqy
    have l1 := rv.length
    have l2 := rv2.length
    have hh : X.A.in1.handled = none := I.ok.hd hc
    have Gs := GoesN.zip2 (A := X.A) (elts := elts) (x1 := kk) (pos := tpos) (zsep Z hz hTO h1 h2 p p2 na nb) (draws_sq (prog := X.prog) (w := X.w) hh k i1 a (sq_ne p h1) its.toArray) (draws_sq (prog := X.prog) (w := X.w) hh l i2 b (sq_ne p2 h2) its2.toArray)
    have ei : min its.toArray.size its2.toArray.size = i := by simp; omega
    rw [ei] at Gs
    refine wpAny_mono (Gs.stops s (fun s1 => Inv X pins σ H s1) E ⟨hz, hTI, ⟨x0, y0, hTO⟩, ⟨h1, p⟩, ⟨h2, p2⟩⟩ fun h' tk hk htk => I.turnedL (ch := [z, TI, TO, i1, i2]) (fun c o hb q => hk c o (fun m => hb (by
      have e' : c = z ∨ c = TO ∨ c = i1 ∨ c = i2 := by simpa using m
      rcases e' with q | q | q | q <;> simp [q])) q) hf) (fun _ _ z => z) fun _ _ z => z
  self := fun A i s Q E st h => wpAny_pyIter_zip st.1 h
theorem walk_zipK {K : PySem.W.Frag} {k l : Bool} {a b : Addr} {xs ys : List V} : Walk (ItzK K k l a b) (min xs.length ys.length) (fun H => SqK K k H a xs ∧ SqK K l H b ys) (YPair (fun i => xs[i]?) (fun i => ys[i]?)) := by
  refine ⟨fun i _ hi q => ?_, fun _ q => ⟨xs, ys, q.1, q.2, rfl⟩, fun i H v H' _ q y => ?_⟩
  · have h1 : i < xs.length := by omega
    have h2 : i < ys.length := by omega
    exact ⟨xs, ys, xs[i], ys[i], q.1, q.2, by simp [h1], by simp [h2]⟩
  · obtain ⟨T, x, y, h1, h2, h3, h4, h5⟩ := y
    exact ⟨T, x, y, h1, h2, h3, h4 xs q.1, h5 ys q.2⟩
def iZipQ (K : PySem.W.Frag) (ta : TA) : TI := fun σ H R => ta σ H fun vs H1 => ∃ a b xs ys G, vs = [.ref a, .ref b] ∧ SqA K G a xs ∧ SqA K G b ys ∧ Same G H1 ∧ ∀ J, Walk J (min xs.length ys.length) (Same G) (YPair (fun i => xs[i]?) (fun i => ys[i]?)) → R J H1
theorem pi_zipQ {X : Cx} {e e2 : Expr} {ta : TA} {p pos tpos : Pos} {elts : List Expr} {kk : Nat} (hg : Gl X "zip") (hm : X.mg "zip" = none) (ha : PA X [e, e2] ta)
    (hs : starEach [e, e2] X.env = (false, eval e X.env) :: starEach [e2] X.env := by rfl) (hpl : (backTo pos (starEach [e2] X.env)).any (·.1) = false := by rfl) :
    PI X (.Tuple elts kk tpos) (.Call (.Name "zip" p) [e, e2] [] pos) (iZipQ X.K ta) := by
  refine ⟨fun pins s σ H R I h => ?_⟩
  refine Call_ (ld_blt I hg hm PyProof.Rows.boot_zip (PyProof.Rows.callWith_type1 (thn (ha.run pos pins s σ H _ I h) fun us s1 ⟨vs, H1, I1, r1, q1⟩ => ?_) hs hpl))
  obtain ⟨a, b, xs, ys, G, ex, hqx, hqy, hv, q⟩ := q1
  subst ex
  cases r1 with
  | cons r rr =>
    cases rr with
    | cons r' rr =>
      cases rr
      cases r
      cases r'
      obtain ⟨k, hk⟩ := hqx.k
      obtain ⟨l, hl⟩ := hqy.k
      obtain ⟨its, rv, p1, la⟩ := inv_sq I1 (SqK.same hk hv)
      obtain ⟨its2, rv2, p2, lb⟩ := inv_sq I1 (SqK.same hl hv)
      refine zip_begins2 (begins_sq k a its.toArray) (begins_sq l b its2.toArray) p1 p2 fun h' hz hTI hTO h1 h2 hsz hk' => wpAny_pyIter_zip hz ?_
      have I2 : Inv X pins σ H1 { s1 with heap := h' } := I1.kept (t' := s1.toks) hk'
      have la' : (a : Nat) < s1.heap.objs.size := la
      have lb' : (b : Nat) < s1.heap.objs.size := lb
      refine ⟨s1.heap.objs.size + 4, [s1.heap.objs.size + 4, s1.heap.objs.size + 2, s1.heap.objs.size + 3, s1.heap.objs.size, s1.heap.objs.size + 1], _, _, H1, rfl, I2,
        turn_zipK k l a b (s1.heap.objs.size + 4) (s1.heap.objs.size + 2) (s1.heap.objs.size + 3) s1.heap.objs.size (s1.heap.objs.size + 1)
          ⟨show (s1.heap.objs.size + 2 : Nat) ≠ s1.heap.objs.size + 4 by omega, show (s1.heap.objs.size + 3 : Nat) ≠ s1.heap.objs.size + 4 by omega, show (s1.heap.objs.size + 2 : Nat) ≠ s1.heap.objs.size + 3 by omega, show (s1.heap.objs.size + 2 : Nat) ≠ s1.heap.objs.size by omega,
            show (s1.heap.objs.size + 2 : Nat) ≠ s1.heap.objs.size + 1 by omega, show (s1.heap.objs.size + 4 : Nat) ≠ s1.heap.objs.size by omega, show (s1.heap.objs.size + 4 : Nat) ≠ s1.heap.objs.size + 1 by omega, show (s1.heap.objs.size + 3 : Nat) ≠ s1.heap.objs.size by omega,
            show (s1.heap.objs.size + 3 : Nat) ≠ s1.heap.objs.size + 1 by omega, show (s1.heap.objs.size : Nat) ≠ s1.heap.objs.size + 1 by omega⟩ (Nat.ne_of_gt (Nat.lt_of_lt_of_le la (Nat.le_add_right _ 3))) (Nat.ne_of_gt (Nat.lt_of_lt_of_le lb (Nat.le_add_right _ 3))),
        ⟨hz, hTI, ⟨_, _, hTO⟩, iter_new h1, iter_new h2⟩, fun c hcm => ?_, q _ (walk_zipK.mono (fun H x => ⟨SqK.same hk x, SqK.same hl x⟩) fun _ _ _ _ _ _ y => y)⟩
      have e' : c = s1.heap.objs.size + 4 ∨ c = s1.heap.objs.size + 2 ∨ c = s1.heap.objs.size + 3 ∨ c = s1.heap.objs.size ∨ c = s1.heap.objs.size + 1 := by simpa using hcm
      have hle : s1.heap.objs.size ≤ c := by
        rcases e' with z | z | z | z | z
        · rw [z]; exact Nat.le_add_right _ _
        · rw [z]; exact Nat.le_add_right _ _
        · rw [z]; exact Nat.le_add_right _ _
        · rw [z]; exact Nat.le_refl _
        · rw [z]; exact Nat.le_add_right _ _
      exact I1.fpOk hle (I1.hok.fresh hle)
end XR
set_option Elab.async false
set_option linter.all false
set_option maxRecDepth 100000
set_option maxHeartbeats 4000000
/-! errors of own classes without fields: made by X(), asked when caught -/
namespace XR
open PySem PySem.Spec PyProof.Rows L2
section
variable {X : Cx} {C : Addr} {bmB : List Value} {B newId initId : String}
theorem pmk_own0 {x : Str} {p pos : Pos} (F : ExcBaseFacts B newId initId bmB) (q : PySem.W.excIn X.K C bmB newId = true) (gC : X.mg x = some (.ref C)) (kC : PySem.W.keepIn X.K (.ref C) = true) (r : Raises X (.ref C)) (hg : Gl X x)
    (hdb : (x == ("__debug__" : Str)) = false := by decide) : PMk X (.Call (.Name x p) [] [] pos) (fun _ H Q => Q (.ref C) none H) := by
  intro pins s σ H Q I h
  refine wpAny_Call_Name_kw (ld_glob I hg gC ?_ hdb)
  refine PySem.W.callWith_K0 I.kIn kC ?_
  show wpAny _ _ (call (.ref C) []) _ _ _
  obtain ⟨bm, N, nm, qn, bs, hdct, sn, sub, ab, col, dd, k0, k1, k2, k3, k5, mN, hC, hN, hni, T⟩ := exc_obj I.kIn q
  refine wpAny_call_exc_subT F T hC hN hni (fun h' e hm => ?_) (by show 0 ≤ sizeLine; exact Nat.zero_le _)
  exact mk_of I hm r h (I.hok.gone hm.new)
end
section
variable {X : Cx} {a : Addr} {oe : Obj} {cls : Value} {d : Option Addr}
theorem pinned_none {pins : List (Addr × Obj)} {s : Shared} {σ : L2.St} {H : Hp} {D : Addr}
    (hp : (a, oe) ∈ X.pn) (hz : Zc (.ref D) none oe) (hf : ∃ vs, oe.data = .fields vs) (I : Inv X pins σ H s) : PySem.W.InstAt s.heap a oe D none := by
  have at_ := (I.pin (a, oe) (List.mem_append_left _ hp)).1
  obtain ⟨vs, hv⟩ := hf
  obtain ⟨oc, od, oda, osl⟩ := oe
  obtain ⟨h1, h2⟩ := hz
  dsimp only at h1 h2 hv
  subst h1 h2 hv
  exact ⟨at_, rfl, rfl, trivial⟩
def rIsN (K : PySem.W.Frag) (cls : Value) (d : Option Addr) (a : Addr) : List V → Hp → VK → Prop := fun xs H Q =>
  ∃ (D : Addr) (c : V) (cv : Value) (b : Bool), cls = .ref D ∧ d = none ∧ Asks K D ∧ xs = [.ref a, c] ∧ ClsV c cv ∧ PySem.W.kitOne K (.ref D) cv = some b ∧ Q (.bl b) H
def rIsNT (K : PySem.W.Frag) (cls : Value) (d : Option Addr) (a : Addr) : List V → Hp → VK → Prop := fun xs H Q =>
  ∃ (D tp : Addr) (cs : List V) (us : List Value) (b : Bool), cls = .ref D ∧ d = none ∧ Asks K D ∧ xs = [.ref a, .ref tp] ∧ H tp = some (.tup cs) ∧ Paired ClsV cs us ∧ PySem.W.kitAny K (.ref D) us = some b ∧ Q (.bl b) H
theorem call_isN (hp : (a, oe) ∈ X.pn) (hz : Zc cls d oe) (hf : ∃ vs, oe.data = .fields vs) : CallR X (.builtin "isinstance") (rIsN X.K cls d a) := by
  intro pins s σ H xs us Q I r h
  obtain ⟨D, c, cv, b, rfl, rfl, as, rfl, kc, ek, q⟩ := h
  obtain ⟨u1, u2, rfl, r1, r2⟩ := vals2 r
  obtain rfl : u1 = Value.ref a := r1
  obtain rfl := kc.eq r2
  have J := pinned_none hp hz hf I
  exact PySem.W.kia_one (PySem.W.handS_kitx_exc as.hg as.hk as.hs as.hd as.ha as.hn as.ht as.hm) I.kIn J ek (fun z => nomatch z) fun tk => ⟨.bl b, H, I.tok tk, rfl, q⟩
theorem call_isNT (hp : (a, oe) ∈ X.pn) (hz : Zc cls d oe) (hf : ∃ vs, oe.data = .fields vs) : CallR X (.builtin "isinstance") (rIsNT X.K cls d a) := by
  intro pins s σ H xs us Q I r h
  obtain ⟨D, tp, cs, ws, b, rfl, rfl, as, rfl, hT, kc, ek, q⟩ := h
  obtain ⟨u1, u2, rfl, r1, r2⟩ := vals2 r
  obtain rfl : u1 = Value.ref a := r1
  obtain rfl : u2 = Value.ref tp := r2
  have J := pinned_none hp hz hf I
  have okT : ObjOk X.prog X.w H s.heap tp (.tup cs) := I.hok tp _ hT
  obtain ⟨_, its, rv, ⟨oc, od2, dt, sl⟩, h1, h2, n, h3⟩ := okT
  dsimp only at h2 h3
  subst h2 h3
  obtain rfl := ClsV.all kc rv
  exact PySem.W.kia_tup (PySem.W.handS_kitx_exc as.hg as.hk as.hs as.hd as.ha as.hn as.ht as.hm) I.kIn J h1 ek (fun z => nomatch z) fun tk => ⟨.bl b, H, I.tok tk, rfl, q⟩
/-- with fields or without -/
def rIsA (K : PySem.W.Frag) (cls : Value) (d : Option Addr) (a : Addr) : List V → Hp → VK → Prop := fun xs H Q => rIsP K cls d a xs H Q ∨ rIsN K cls d a xs H Q
def rIsAT (K : PySem.W.Frag) (cls : Value) (d : Option Addr) (a : Addr) : List V → Hp → VK → Prop := fun xs H Q => rIsPT K cls d a xs H Q ∨ rIsNT K cls d a xs H Q
theorem call_isA (hp : (a, oe) ∈ X.pn) (hz : Zc cls d oe) (hf : ∃ vs, oe.data = .fields vs) : CallR X (.builtin "isinstance") (rIsA X.K cls d a) := by
  intro pins s σ H xs us Q I r h
  rcases h with h | h
  · exact call_isP hp hz hf pins s σ H xs us Q I r h
  · exact call_isN hp hz hf pins s σ H xs us Q I r h
theorem call_isAT (hp : (a, oe) ∈ X.pn) (hz : Zc cls d oe) (hf : ∃ vs, oe.data = .fields vs) : CallR X (.builtin "isinstance") (rIsAT X.K cls d a) := by
  intro pins s σ H xs us Q I r h
  rcases h with h | h
  · exact call_isPT hp hz hf pins s σ H xs us Q I r h
  · exact call_isNT hp hz hf pins s σ H xs us Q I r h
end
section
variable {X : Cx} {a b : Addr} {oe : Obj} {cls : Value} {d : Option Addr} {pn : List (Addr × Obj)}
theorem call_isAs (hz : Zc cls d oe) (hf : ∃ vs, oe.data = .fields vs) : CallR (X.suite b ((a, oe) :: pn)) (.builtin "isinstance") (rIsA X.K cls d a) := call_isA List.mem_cons_self hz hf
theorem call_isATs (hz : Zc cls d oe) (hf : ∃ vs, oe.data = .fields vs) : CallR (X.suite b ((a, oe) :: pn)) (.builtin "isinstance") (rIsAT X.K cls d a) := call_isAT List.mem_cons_self hz hf
end
/-! ### min and max of a list or a tuple of ints -/
section
variable {prog : Program} {w : World} {A : Around} {E : Value → Shared → Prop} {s : Shared} {l : Addr} {xs : Array (Int × Tok)}
theorem iter_intTup {Q : Value → Shared → Prop} (hl : s.heap.IsTuple l (intItems xs))
    (h : ∀ s₂ : Shared, s₂ = { s with heap := s.heap.push { cls := .type "tuple_iterator", data := .fields #[.ref l, .int 0 0] } } →
      (s₂.heap.IsTupleIter s.heap.objs.size l 0 ∧ s₂.heap.IsTuple l (intItems xs)) → (∀ b ∈ [s.heap.objs.size, l], b < s₂.heap.objs.size) → l ≠ s.heap.objs.size → Q (.ref s.heap.objs.size) s₂) :
    wpAny (model prog w) A (pyIter (.ref l)) Q E s := by
  have hlt : l < s.heap.objs.size := by obtain ⟨_, e, _⟩ := hl; exact Heap.lt_size e
  refine wpAny_pyIter_tuple hl (h _ rfl ⟨⟨_, Heap.get?_push_size _ rfl, rfl, rfl⟩, ?_⟩ (fun b hb => ?_) (Nat.ne_of_lt hlt))
  · obtain ⟨o, e, r⟩ := hl
    exact ⟨o, Heap.get?_push_of_some _ e, r⟩
  · show b < (s.heap.push _).objs.size
    rw [Heap.size_push]
    rcases List.mem_cons.mp hb with rfl | hb
    · exact Nat.lt_succ_self _
    · rcases List.mem_cons.mp hb with rfl | hb
      · exact Nat.lt_succ_of_lt hlt
      · cases hb
theorem old_keptT {h' : Heap} (hk : ∀ b o, b ∉ [s.heap.objs.size] → (s.heap.push { cls := .type "tuple_iterator", data := .fields #[.ref l, .int 0 0] }).get? b = some o → h'.get? b = some o) :
    ∀ b o, s.heap.get? b = some o → h'.get? b = some o := fun b o e => by
  refine hk b o (fun hm => ?_) (Heap.get?_push_of_some _ e)
  rcases List.mem_cons.mp hm with e1 | hm
  · exact absurd (e1 ▸ Heap.lt_size e) (Nat.lt_irrefl _)
  · cases hm
theorem max_intTup {Q : Value → Shared → Prop} (hh : A.handled = none) (hl : s.heap.IsTuple l (intItems xs)) (hne : 0 < xs.size)
    (h : ∀ v h' tk, (intItems xs)[argBest (fun i j => decide (numAt xs i > numAt xs j)) (xs.size - 1)]? = some v → (∀ b o, s.heap.get? b = some o → h'.get? b = some o) → Q v { s with heap := h', toks := tk }) :
    wpAny (model prog w) A (call (.builtin "max") [.ref l]) Q E s := by
  refine call_max_walk (iter_intTup hl fun s₂ e st hfp hlI => ?_)
  subst e
  refine ⟨_, _, _, _, _, _, _, rfl, Walks.tuple (A := A.in1) hh _ l hlI (intItems xs), st, hfp, by simpa [intItems] using hne, CmpOf.ints_gt (numAt xs) (fun _ _ => intItems_at), fun v h' tk hP hk => ?_⟩
  exact h v h' tk (by simpa [intItems] using hP) (old_keptT hk)
theorem min_intTup {Q : Value → Shared → Prop} (hh : A.handled = none) (hl : s.heap.IsTuple l (intItems xs)) (hne : 0 < xs.size)
    (h : ∀ v h' tk, (intItems xs)[argBest (fun i j => decide (numAt xs i < numAt xs j)) (xs.size - 1)]? = some v → (∀ b o, s.heap.get? b = some o → h'.get? b = some o) → Q v { s with heap := h', toks := tk }) :
    wpAny (model prog w) A (call (.builtin "min") [.ref l]) Q E s := by
  refine call_min_walk (iter_intTup hl fun s₂ e st hfp hlI => ?_)
  subst e
  refine ⟨_, _, _, _, _, _, _, rfl, Walks.tuple (A := A.in1) hh _ l hlI (intItems xs), st, hfp, by simpa [intItems] using hne, CmpOf.ints_lt (numAt xs) (fun _ _ => intItems_at), fun v h' tk hP hk => ?_⟩
  exact h v h' tk (by simpa [intItems] using hP) (old_keptT hk)
end
section
variable {prog : Program} {w : World} {A : Around} {E : Value → Shared → Prop} {s : Shared} {l : Addr} {its : List Value} {ns : List Int} {Q : Value → Shared → Prop}
theorem max_rawT (hh : A.handled = none) (hl : s.heap.IsTuple l its.toArray) (hi : IntsAre its ns) (hne : 0 < ns.length)
    (h : ∀ h' tk M t', (∀ b o, s.heap.get? b = some o → h'.get? b = some o) → M ∈ ns → (∀ a, a ∈ ns → a ≤ M) → Q (.int M t') { s with heap := h', toks := tk }) : wpAny (model prog w) A (call (.builtin "max") [.ref l]) Q E s := by
  obtain ⟨xs, e⟩ := hi.allInts.items
  have hn : numsOf (intItems xs).toList = ns := by rw [← e]; exact hi.numsOf
  rw [nums_intItems] at hn
  subst hn
  rw [e] at hl
  have hsz : 0 < xs.size := by simpa using hne
  refine max_intTup hh hl hsz fun v h' tk hv hk => ?_
  obtain ⟨t, rfl⟩ := intItems_at hv
  obtain ⟨h1, h2⟩ := argBest_gt (numAt xs) (xs.size - 1)
  refine h h' tk _ t hk ?_ fun a ha => ?_
  · rw [numAt_eq]; exact PySem.getD_mem (by rw [List.length_map, Array.length_toList]; omega)
  · obtain ⟨j, hj, rfl⟩ := mem_getD ha
    rw [List.length_map, Array.length_toList] at hj
    rw [← numAt_eq]; exact h2 j (by omega)
theorem min_rawT (hh : A.handled = none) (hl : s.heap.IsTuple l its.toArray) (hi : IntsAre its ns) (hne : 0 < ns.length)
    (h : ∀ h' tk M t', (∀ b o, s.heap.get? b = some o → h'.get? b = some o) → M ∈ ns → (∀ a, a ∈ ns → M ≤ a) → Q (.int M t') { s with heap := h', toks := tk }) : wpAny (model prog w) A (call (.builtin "min") [.ref l]) Q E s := by
  obtain ⟨xs, e⟩ := hi.allInts.items
  have hn : numsOf (intItems xs).toList = ns := by rw [← e]; exact hi.numsOf
  rw [nums_intItems] at hn
  subst hn
  rw [e] at hl
  have hsz : 0 < xs.size := by simpa using hne
  refine min_intTup hh hl hsz fun v h' tk hv hk => ?_
  obtain ⟨t, rfl⟩ := intItems_at hv
  obtain ⟨h1, h2⟩ := argBest_lt (numAt xs) (xs.size - 1)
  refine h h' tk _ t hk ?_ fun a ha => ?_
  · rw [numAt_eq]; exact PySem.getD_mem (by rw [List.length_map, Array.length_toList]; omega)
  · obtain ⟨j, hj, rfl⟩ := mem_getD ha
    rw [List.length_map, Array.length_toList] at hj
    rw [← numAt_eq]; exact h2 j (by omega)
end
section
variable {X : Cx}
def rMaxQ (K : PySem.W.Frag) : List V → Hp → VK → Prop := fun vs H Q => ∃ (a : Addr) (ns : List Int), vs = [V.ref a] ∧ SqA K H a (ns.map V.int) ∧ 0 < ns.length ∧ ∀ m, m ∈ ns → (∀ y, y ∈ ns → y ≤ m) → Q (.int m) H
def rMinQ (K : PySem.W.Frag) : List V → Hp → VK → Prop := fun vs H Q => ∃ (a : Addr) (ns : List Int), vs = [V.ref a] ∧ SqA K H a (ns.map V.int) ∧ 0 < ns.length ∧ ∀ m, m ∈ ns → (∀ y, y ∈ ns → m ≤ y) → Q (.int m) H
theorem cr_maxQ (hc : X.calm = true) : CallR X (.builtin "max") (rMaxQ X.K) := by
  intro pins s σ H vs us Q I r h
  obtain ⟨a, ns, rfl, hs, hne, q⟩ := h
  rw [Vals.ref1 r]
  rcases hs with hs | hs
  · obtain ⟨its, rv, hl, _⟩ := I.list hs
    exact max_raw (I.ok.hd hc) hl.isList rv.ints hne fun h' tk m t' hk h1 h2 => ⟨.int _, H, I.kept hk, ⟨_, rfl⟩, q m h1 h2⟩
  · obtain ⟨its, rv, hl, _⟩ := I.tuple hs
    exact max_rawT (I.ok.hd hc) (show s.heap.IsTuple a its.toArray from hl) rv.ints hne fun h' tk m t' hk h1 h2 => ⟨.int _, H, I.kept hk, ⟨_, rfl⟩, q m h1 h2⟩
theorem cr_minQ (hc : X.calm = true) : CallR X (.builtin "min") (rMinQ X.K) := by
  intro pins s σ H vs us Q I r h
  obtain ⟨a, ns, rfl, hs, hne, q⟩ := h
  rw [Vals.ref1 r]
  rcases hs with hs | hs
  · obtain ⟨its, rv, hl, _⟩ := I.list hs
    exact min_raw (I.ok.hd hc) hl.isList rv.ints hne fun h' tk m t' hk h1 h2 => ⟨.int _, H, I.kept hk, ⟨_, rfl⟩, q m h1 h2⟩
  · obtain ⟨its, rv, hl, _⟩ := I.tuple hs
    exact min_rawT (I.ok.hd hc) (show s.heap.IsTuple a its.toArray from hl) rv.ints hne fun h' tk m t' hk h1 h2 => ⟨.int _, H, I.kept hk, ⟨_, rfl⟩, q m h1 h2⟩
end
end XR
set_option Elab.async false
set_option linter.all false
set_option maxRecDepth 100000
set_option maxHeartbeats 4000000
/-! texts: times, pairs of texts, lists of them -/
namespace XR
open PySem PySem.Spec PyProof.Rows L2
theorem fold_size (c : Array Nat) : ∀ (n : Nat) (acc : Array Nat), ((List.replicate n c).foldl (· ++ ·) acc).size = acc.size + n * c.size
  | 0, acc => by simp
  | n + 1, acc => by
    rw [List.replicate_succ, List.foldl_cons, fold_size c n, Array.size_append, Nat.succ_mul]
    omega
theorem fold_all (p : Nat → Bool) (c : Array Nat) (hc : c.all p = true) : ∀ (n : Nat) (acc : Array Nat), acc.all p = true → ((List.replicate n c).foldl (· ++ ·) acc).all p = true
  | 0, acc, h => by simpa using h
  | n + 1, acc, h => by
    rw [List.replicate_succ, List.foldl_cons]
    exact fold_all p c hc n _ (by rw [Array.all_append, h, hc]; rfl)
def mulS (z : Str) (n : Int) : Str := if n < 1 then Str.empty else if (n == 1 || z.length == 0) = true then z else ⟨(List.replicate n.toNat z.cps).foldl (· ++ ·) #[]⟩
def rMulS : R2 := fun x y H Q => ∃ z n, x = .str z ∧ y = .int n ∧ 1 ≤ n ∧ n ≤ 30 ∧ z.length ≤ 30 ∧ Q (.str (mulS z n)) H
theorem op_mul_str {X : Cx} : OpR X (binaryOp .Mult) rMulS := by
  intro pins s σ H x y v u Q I rx ry h
  obtain ⟨z, n, rfl, rfl, h1, h2, h3, q⟩ := h
  obtain ⟨t, rfl⟩ := rx
  obtain ⟨t', rfl⟩ := ry
  have hn : ¬ n < 1 := by omega
  refine PySem.P.mul_str (by
    rw [decide_eq_false (show ¬ n < -(2 ^ 63 : Int) by omega), decide_eq_false (show ¬ n ≥ 2 ^ 63 by omega)]; rfl) (fun _ _ => ?_) (fun _ _ => ?_) ?_
  · have : (30 : Int) ≤ (2 ^ 63 - 1) / n := Int.le_ediv_of_mul_le (by omega) (by omega)
    omega
  · have : z.length * n.toNat ≤ 30 * 30 := Nat.mul_le_mul h3 (by omega)
    exact decide_eq_false (by rw [sizeLine_eq]; omega)
  · unfold mulS at q
    rw [if_neg hn] at q ⊢
    by_cases e : (n == 1 || z.length == 0) = true
    · rw [if_pos e] at q ⊢
      exact ⟨.str z, H, I, ⟨_, rfl⟩, q⟩
    · rw [if_neg e] at q ⊢
      refine ⟨?_, ⟨.str _, H, I.tok _, ⟨_, rfl⟩, q⟩⟩
      show (Array.size _) ≤ sizeLine
      rw [fold_size, sizeLine_eq]
      have : n.toNat * z.cps.size ≤ 30 * 30 := Nat.mul_le_mul (by omega) h3
      show (0 : Nat) + _ ≤ _
      omega
/-! ### texts that may stand in data -/
def okS (n : Nat) (s : Str) : Prop := PyData.strOk s = true ∧ s.length ≤ n
theorem okS.mono {n m : Nat} {s : Str} (h : okS n s) (e : n ≤ m) : okS m s := ⟨h.1, Nat.le_trans h.2 e⟩
theorem okS.add {n m : Nat} {a b : Str} (h : okS n a) (k : okS m b) : okS (n + m) (a ++ b) := by
  have e : (a ++ b).cps = a.cps ++ b.cps := rfl
  refine ⟨?_, ?_⟩
  · show (a ++ b).cps.all _ = true
    rw [e, Array.all_append]
    show ((a.cps.all _) && (b.cps.all _)) = true
    rw [show a.cps.all _ = true from h.1, show b.cps.all _ = true from k.1]
    rfl
  · show (a ++ b).cps.size ≤ n + m
    rw [e, Array.size_append]
    have h1 : a.cps.size ≤ n := h.2
    have h2 : b.cps.size ≤ m := k.2
    omega
theorem okS.cut {n : Nat} {a : Str} (h : okS n a) (lo hi : Option Int) : okS n (cutS a lo hi) := by
  have ha : a.cps.all (· < 0x110000) = true := h.1
  have hn : a.cps.size ≤ n := h.2
  unfold cutS
  refine ⟨?_, ?_⟩
  · show (List.toArray _).all (· < 0x110000) = true
    rw [List.all_toArray, List.all_eq_true]
    intro c hc
    have := List.mem_of_mem_drop (List.mem_of_mem_take hc)
    rw [Array.all_eq_true_iff_forall_mem] at ha
    exact ha c (Array.mem_toList_iff.mp this)
  · show (List.toArray _).size ≤ n
    rw [List.size_toArray, List.length_take, List.length_drop, Array.length_toList]
    omega
theorem okS.mul {a : Str} (h : okS 1 a) {n : Int} (h1 : 1 ≤ n) (h2 : n ≤ 30) : okS 30 (mulS a n) := by
  unfold mulS
  rw [if_neg (by omega)]
  by_cases e : (n == 1 || a.length == 0) = true
  · rw [if_pos e]
    exact h.mono (by decide)
  · rw [if_neg e]
    refine ⟨fold_all _ _ h.1 _ _ (by simp), ?_⟩
    show Array.size _ ≤ 30
    rw [fold_size]
    have : n.toNat * a.cps.size ≤ n.toNat * 1 := Nat.mul_le_mul (Nat.le_refl _) h.2
    show 0 + _ ≤ _
    omega
theorem okS.at {n : Nat} {z : Str} (h : okS n z) {i : Int} (h0 : 0 ≤ i) (h1 : i < (z.length : Int)) : ∃ c, atI z.cps.toList i = some c ∧ okS 1 (⟨#[c]⟩ : Str) := by
  have e : z.length = z.cps.toList.length := by simp [Str.length]
  have hl : i.toNat < z.cps.toList.length := by omega
  refine ⟨z.cps.toList[i.toNat], ?_, ?_, Nat.le_refl _⟩
  · have h3 := atI_nat (xs := z.cps.toList) (j := i.toNat) (List.getElem?_eq_getElem hl)
    rwa [show ((i.toNat : Nat) : Int) = i by omega] at h3
  have ha : z.cps.all (· < 0x110000) = true := h.1
  rw [Array.all_eq_true_iff_forall_mem] at ha
  have := ha _ (Array.mem_toList_iff.mp (List.getElem_mem hl))
  show (#[_] : Array Nat).all _ = true
  simpa using this
theorem okS_int (i : Int) (h0 : 0 ≤ i) (h1 : i < 128) : okS 3 (Str.ofString (toString i)) := by
  have h : ∀ n : Fin 128, PyData.strOk (Str.ofString (toString (n.val : Int))) = true ∧ (Str.ofString (toString (n.val : Int))).length ≤ 3 := by decide +kernel
  have := h ⟨i.toNat, by omega⟩
  rw [show ((⟨i.toNat, by omega⟩ : Fin 128).val : Int) = i by simp; omega] at this
  exact this
theorem okS.room {n m : Nat} {a b : Str} (h : okS n a) (k : okS m b) (e : n + m ≤ 1000) : a.length + b.length ≤ sizeLine := by
  have h1 := h.2
  have h2 := k.2
  rw [sizeLine_eq]
  omega
theorem seq_ix {i : Int} {n : Nat} (h0 : 0 ≤ i) (h1 : i < (n : Int)) : seqIndex? i n = some i.toNat := by
  simp [seqIndex?, show ¬ i < 0 by omega, h0, h1]
theorem isE_map {α β : Type} (f : α → β) (xs : List α) : (xs.map f).isEmpty = xs.isEmpty := by cases xs <;> rfl
theorem strs_at {n : Nat} (ss : List Str) {i : Int} (h0 : 0 ≤ i) (h : i < (ss.length : Int)) (p : ∀ s ∈ ss, okS n s) : ∃ s, atI (ss.map V.str) i = some (.str s) ∧ okS n s ∧ s ∈ ss := by
  have hl : i.toNat < ss.length := by omega
  refine ⟨ss[i.toNat], at_of (j := i.toNat) (by omega) ?_, p _ (List.getElem_mem hl), List.getElem_mem hl⟩
  rw [List.getElem?_map, List.getElem?_eq_getElem hl] <;> rfl
theorem DpAll.strs {K : PySem.W.Frag} {G : Hp} : ∀ {xs : List V} {ns : List Str}, DpAll K G xs (ns.map PyData.str) → xs = ns.map V.str
  | _, [], .nil => rfl
  | _, _ :: _, .cons a b => by rw [Dp.str_inv a, DpAll.strs b]; rfl
theorem DpAll.of_strs {K : PySem.W.Frag} {G : Hp} : ∀ (ns : List Str), DpAll K G (ns.map V.str) (ns.map PyData.str)
  | [] => .nil
  | n :: r => .cons (.str n) (DpAll.of_strs r)
abbrev sD : Str × Str → PyData := fun c => .tuple [.str c.1, .str c.2]
abbrev sDs (cs : List (Str × Str)) : List PyData := cs.map sD
theorem Dp.spair {K : PySem.W.Frag} {G : Hp} {x : V} {c : Str × Str} (h : Dp K G x (sD c)) : ∃ p, x = .ref p ∧ SqT K G p [.str c.1, .str c.2] := by
  obtain ⟨p, xs, rfl, s, a⟩ := Dp.tup_inv h
  cases a with | cons a1 a2 =>
  cases a2 with | cons b1 b2 =>
  cases b2
  rw [Dp.str_inv a1, Dp.str_inv b1] at s
  exact ⟨p, rfl, s⟩
theorem Dp.mk_spair {K : PySem.W.Frag} {G : Hp} {p : Addr} {a b : Str} (h : SqT K G p [.str a, .str b]) : Dp K G (.ref p) (sD (a, b)) := .tup h (.cons (.str a) (.cons (.str b) .nil))
def okP (n : Nat) (c : Str × Str) : Prop := okS n c.1 ∧ okS n c.2
theorem strs_can {n : Nat} : ∀ ss : List Str, (∀ s ∈ ss, okS n s) → PyData.canLayAll0 (ss.map PyData.str) = true
  | [], _ => rfl
  | s :: r, h => by
    show (PyData.canLay0 (.str s) && PyData.canLayAll0 (r.map PyData.str)) = true
    rw [strs_can r fun x hx => h x (List.mem_cons_of_mem _ hx)]
    have := (h s List.mem_cons_self).1
    simpa [PyData.canLay0] using this
theorem strs_depth : ∀ ns : List Str, PyData.depthAll (ns.map PyData.str) ≤ 8
  | [] => by decide
  | c :: r => by
    have := strs_depth r
    show max (PyData.depth (.str c)) (PyData.depthAll (r.map PyData.str)) ≤ 8
    have h : PyData.depth (.str c) ≤ 8 := by simp [PyData.depth]
    omega
theorem strs_eqv : ∀ ns : List Str, PyData.eqvAll (ns.map PyData.str) (ns.map PyData.str) = true
  | [] => rfl
  | c :: r => by
    show (PyData.eqv (.str c) (.str c) && PyData.eqvAll (r.map PyData.str) (r.map PyData.str)) = true
    rw [strs_eqv r]
    simp [PyData.eqv]
theorem shaped_strs {n : Nat} (ss : List Str) (h : ∀ s ∈ ss, okS n s) : SeqAt.shaped (.list (ss.map PyData.str)) = true ∧ SeqAt.shaped (.tuple (ss.map PyData.str)) = true := by
  have hc := strs_can ss h
  have hd := strs_depth ss
  constructor
  · show (PyData.canLayAll0 (ss.map PyData.str) && decide (PyData.depthAll (ss.map PyData.str) + 1 ≤ 64)) = true
    rw [hc]; simp; omega
  · show (PyData.canLayAll0 (ss.map PyData.str) && decide (PyData.depthAll (ss.map PyData.str) + 1 ≤ 64)) = true
    rw [hc]; simp; omega
theorem sDs_can {n : Nat} : ∀ ss : List (Str × Str), (∀ s ∈ ss, okP n s) → PyData.canLayAll0 (sDs ss) = true
  | [], _ => rfl
  | s :: r, h => by
    show (PyData.canLay0 (sD s) && PyData.canLayAll0 (sDs r)) = true
    rw [sDs_can r fun x hx => h x (List.mem_cons_of_mem _ hx)]
    have h1 := (h s List.mem_cons_self).1.1
    have h2 := (h s List.mem_cons_self).2.1
    simp [PyData.canLay0, PyData.canLayAll0, h1, h2]
theorem sDs_depth : ∀ cs : List (Str × Str), PyData.depthAll (sDs cs) ≤ 8
  | [] => by decide
  | c :: r => by
    have := sDs_depth r
    show max (PyData.depth (sD c)) (PyData.depthAll (sDs r)) ≤ 8
    have h : PyData.depth (sD c) ≤ 8 := by simp [PyData.depth, PyData.depthAll]
    omega
theorem sDs_eqv : ∀ cs : List (Str × Str), PyData.eqvAll (sDs cs) (sDs cs) = true
  | [] => rfl
  | c :: r => by
    show (PyData.eqv (sD c) (sD c) && PyData.eqvAll (sDs r) (sDs r)) = true
    rw [sDs_eqv r]
    simp [PyData.eqv, PyData.eqvAll]
theorem shaped_sDs {n : Nat} (ss : List (Str × Str)) (h : ∀ s ∈ ss, okP n s) : SeqAt.shaped (.list (sDs ss)) = true := by
  have hc := sDs_can ss h
  have hd := sDs_depth ss
  show (PyData.canLayAll0 (sDs ss) && decide (PyData.depthAll (sDs ss) + 1 ≤ 64)) = true
  rw [hc]; simp; omega
theorem call_len_seqb {X : Cx} {s : Shared} {H : Hp} {sc : Scope} {ce : Env} {fp : List Addr} : CallR (X.blk s H sc ce fp) (.builtin "len") (fun xs H Q => ∃ p ys, xs = [V.ref p] ∧ (SqL X.K H p ys ∨ SqT X.K H p ys) ∧ Q (V.int (ys.length : Int)) H) := call_len_seq
end XR
set_option Elab.async false
set_option linter.all false
set_option maxRecDepth 100000
set_option maxHeartbeats 4000000
/-! defs with a star parameter, called at their class -/
namespace XR
open PySem PySem.Spec PyProof.Rows L2
section
variable {X : Cx} {CX : CXT} {k : Nat} {C f p g : Addr} {sp : Sp} {E : XK} {m : Str} {o : Expr} {apos pos : Pos} {pl : Sem Bool} {es : List Expr} {e : Expr} {ta : TE} {t : TA} {ES : L2.St → XK}
/-- the callee with a star runs, somewhere below the body -/
theorem run_atR {A : Around} {pins : List (Addr × Obj)} {σ : L2.St} {H : Hp} {s : Shared} {Q : VK} {us : List Value} {vs : List V} (F : FnR X.prog X.w X.K X.mg X.base CX k f sp) (hr : Room k A) (hA : A.frames = X.A.frames) (hx : PassesAt CX X σ E)
    (I : Inv X pins σ H s) (r : Vals vs us) (h : sp vs H Q E) : wpAny (model X.prog X.w) A (call (.ref f) us) (EP X pins σ Q) X.xe s := by
  have e0 : Env0 X.prog X.w X.K X.mg X.base A X.stack s H := by
    have e := I.env0
    exact ⟨by rw [hA]; exact e.frames, e.mod, e.bs, e.bsz, e.funs, e.frf, e.hok, e.bare⟩
  refine wpAny_call (codeAny_mono (F A X.stack s H us vs Q E hr e0 r h) fun r s' hq => ?_)
  cases r with
  | error e => exact hx pins H s e s' I hq
  | ok fl =>
    cases fl with
    | ret u => exact I.after hq
    | next => exact False.elim hq
    | brk => exact False.elim hq
    | cont => exact False.elim hq
theorem pe_statR (he : PE X o ta) (r : CStat X.K C p g m) (F : FnR X.prog X.w X.K X.mg X.base CX k g sp) (hr : Room k X.A) (hk : PySem.W.keepIn X.K (.ref g) = true) (hx : ∀ σ, PassesAt CX X σ (ES σ)) (ha : PA X (e :: es) t)
    (hst : starEach (e :: es) X.env = (false, eval e X.env) :: starEach es X.env := by rfl) (hpl : (backTo pos (starEach es X.env)).any (·.1) = false := by rfl)
    (ht : eval (.Call (.Attribute o m apos) (e :: es) [] pos) X.env = (do
      let ov ← eval o X.env
      standAt apos.atName
      let (f, first) ← holding [ov] (getMethod ov m pl)
      callWith pos f first (backTo pos (starEach (e :: es) X.env)) (backToKw pos (keywordEach [] X.env))) := by rfl) :
    PE X (.Call (.Attribute o m apos) (e :: es) [] pos) (tStat C sp ES ta t) := by
  refine ⟨fun pins s σ H Q I h => ?_⟩
  refine PySem.W.methodCall_KW (pl := pl) (thn (he.run pins s σ H _ I h) fun u s1 ⟨x, H1, I1, rx, ex, q⟩ => ?_) ht
  subst ex
  obtain rfl : u = Value.ref C := rx
  refine getstat_ok I1 r fun s2 I2 => ?_
  refine PySem.W.callWith_K (h₀ := X.base) I.ok.mod.kin hk (thn (ha.run pos _ s2 σ H1 _ I2 q) fun us s3 ⟨vs, H2, I3, rv, q2⟩ => ⟨I3.kIn, ?_⟩) hst hpl
  exact run_atR F hr rfl (hx σ) I3 rv q2
theorem pe_statR0 (he : PE X o ta) (r : CStat X.K C p g m) (F : FnR X.prog X.w X.K X.mg X.base CX k g sp) (hr : Room k X.A) (hk : PySem.W.keepIn X.K (.ref g) = true) (hx : ∀ σ, PassesAt CX X σ (ES σ))
    (ht : eval (.Call (.Attribute o m apos) [] [] pos) X.env = (do
      let ov ← eval o X.env
      standAt apos.atName
      let (f, first) ← holding [ov] (getMethod ov m pl)
      callWith pos f first (backTo pos (starEach [] X.env)) (backToKw pos (keywordEach [] X.env))) := by rfl) :
    PE X (.Call (.Attribute o m apos) [] [] pos) (tStat C sp ES ta tNil) := by
  refine ⟨fun pins s σ H Q I h => ?_⟩
  refine PySem.W.methodCall_KW (pl := pl) (thn (he.run pins s σ H _ I h) fun u s1 ⟨x, H1, I1, rx, ex, q⟩ => ?_) ht
  subst ex
  obtain rfl : u = Value.ref C := rx
  refine getstat_ok I1 r fun s2 I2 => ?_
  exact PySem.W.callWith_K0 I2.kIn hk (run_atR (us := []) F hr rfl (hx σ) I2 .nil q)
end
section
variable {P : Program} {w : World} {K : PySem.W.Frag} {mg : Str → Option Value} {base : Heap}
/-- a def whose one parameter takes all arguments -/
def spStar (sp : Sp) : Sp := fun vs H Q E => vs.length ≤ sizeLine ∧ ∀ p, H p = none → sp [.ref p] (L2.upd H p (.tup vs)) Q E
theorem okStar {x qual : Str} {st : Stmt} {f : Addr} {fd : FuncData} {N : List Str} {pv : Str} {k : Nat} {sp : Sp} (F : Fun K x qual st f fd) (S : FnScope N [pv] (defScope st))
    (hb : ∀ (kV doc pm : Value) (an : Option Addr) (cdv ct : Value) (rest : List Value), bindArgs (PySem.W.fnOf x qual (defArgs st) (defBody st) (defScope st) .none kV doc pm an cdv ct) { pos := rest } = (do let t ← newTuple rest; pure [(pv, t)]))
    (h : ∀ (cdv : Value) (A : Around) (outer : List Env) (s : Shared) (H : Hp) (vs : List V) (Q : VK) (E : XK), Room k (A.deeper (PyProof.Rows.envOfC qual (defScope st) s.heap.objs.size f cdv)) → sp vs H Q E →
      ∃ t, PSs (cxOf (L2.CX P w) P w K mg base N qual (defScope st) f cdv A outer s H E) (defBody st) t ∧ t { nx := fun _ H' => Q .non H', rt := Q } (L2.start N vs) H) :
    FnR P w K mg base (L2.CX P w) (k + 1) f (spStar sp) := by
  obtain ⟨oc, od, kV, doc, pm, an, cdv, ct, osl, rfl, lk, cd⟩ := F.ex
  have R := StX.fn_star (ps := []) (sp := sp) lk cd S StX.cxUp (fun us rest hl => by
    cases us with
    | nil => exact hb kV doc pm an cdv ct rest
    | cons _ _ => cases hl) (h cdv)
  intro A outer s H us vs Q E hr e0 rv ⟨hl, q⟩
  exact R A outer s H us vs Q E hr e0 rv ⟨[], vs, rfl, rfl, hl, q⟩
end
end XR
set_option Elab.async false
set_option linter.all false
set_option maxRecDepth 100000
set_option maxHeartbeats 4000000
/-! range(n) as a value -/
namespace XR
open PySem PySem.Spec PyProof.Rows L2
theorem cr_range1 {X : Cx} : CallR X (.type "range") (fun vs H Q => ∃ j, vs = [V.int j] ∧ ∀ p, H p = none → Q (.ref p) (L2.upd H p (.rng 0 j))) := by
  intro pins s σ H xs us Q I r h
  obtain ⟨j, rfl, k⟩ := h
  cases r with
  | cons r0 r =>
  cases r
  obtain ⟨t, rfl⟩ := r0
  refine PySem.call_range_1 ?_
  refine ⟨.ref _, L2.upd H _ (.rng 0 j), I.laid ?_ (Nat.le_refl _) ?_, rfl, k _ I.fresh⟩
  · exact fun b u e => Heap.get?_push_of_some _ e
  · exact ⟨_, _, _, Heap.get?_push_size (ho := rfl) ..⟩
theorem call_tuple_ofb {X : Cx} {s : Shared} {H : Hp} {sc : Scope} {ce : Env} {fp : List Addr} : CallR (X.blk s H sc ce fp) (.type "tuple") (fun xs H Q => ∃ p ys, xs = [.ref p] ∧ ((SqL X.K H p ys ∧ ∀ l, H l = none → Q (.ref l) (L2.upd H l (.tup ys))) ∨ (SqT X.K H p ys ∧ Q (.ref p) H))) := call_tuple_of
theorem call_list_ofb {X : Cx} {s : Shared} {H : Hp} {sc : Scope} {ce : Env} {fp : List Addr} : CallR (X.blk s H sc ce fp) (.type "list") (fun xs H Q => ∃ p ys, xs = [.ref p] ∧ (SqL X.K H p ys ∨ SqT X.K H p ys) ∧ ∀ l, H l = none → Q (.ref l) (L2.upd H l (.lst ys))) := call_list_of
theorem pt_truthb {X : Cx} {s : Shared} {H : Hp} {sc : Scope} {ce : Env} {fp : List Addr} {a : Expr} {ta : TE} (ha : PE (X.blk s H sc ce fp) a ta)
    (ht : ∀ whole : Sem Value, PySem.isTrue a (X.blk s H sc ce fp).env whole = do
        let v ← whole
        standAt a.pos
        holding [v] (truthy v)) : PT (X.blk s H sc ce fp) a (fun σ H Q => ta σ H fun x H' => ∃ k, TruV X.K x H' k ∧ Q k H') := pt_truth ha ht
theorem cr_allb {X : Cx} {s : Shared} {H : Hp} {sc : Scope} {ce : Env} {fp : List Addr} (hc : X.calm = true) : CallR (X.blk s H sc ce fp) (.builtin "all") (rAll X.K) := cr_all hc
theorem pi_sqb {X : Cx} {s : Shared} {H : Hp} {sc : Scope} {ce : Env} {fp : List Addr} {tg l : Expr} {tl : TE} (hl : PE (X.blk s H sc ce fp) l tl) : PI (X.blk s H sc ce fp) tg l (iSq X.K tl) := pi_sq hl
theorem op_in_seqbb {X : Cx} {s s2 : Shared} {H H2 : Hp} {sc sc2 : Scope} {ce ce2 : Env} {fp fp2 : List Addr} : OpR ((X.blk s H sc ce fp).blk s2 H2 sc2 ce2 fp2) (compareOp .In) (rIn X.K false) := op_in_seq
theorem op_neDs {X : Cx} {b : Addr} {pn : List (Addr × Obj)} (hu : X.A.units + 64 < cLine) : OpR (X.suite b pn) (compareOp .NotEq) (rNeD X.K) := op_neD (X := X.suite b pn) hu
theorem op_eqDs {X : Cx} {b : Addr} {pn : List (Addr × Obj)} (hu : X.A.units + 64 < cLine) : OpR (X.suite b pn) (compareOp .Eq) (rEqD X.K) := op_eqD (X := X.suite b pn) hu
theorem ix_lists {X : Cx} {b : Addr} {pn : List (Addr × Obj)} : IxR (X.suite b pn) (rIxL X.K) := ix_list
theorem ix_tups {X : Cx} {b : Addr} {pn : List (Addr × Obj)} : IxR (X.suite b pn) (rIxT X.K) := ix_tup
/-- a slice of a list or a tuple -/
def rSlQ (K : PySem.W.Frag) : V → Option Int → Option Int → Hp → VK → Prop := fun x lo hi H Q => ∃ a xs, x = .ref a ∧ SqA K H a xs ∧ ∀ (p : Addr) (H' : Hp), Same H H' → SqA K H' p (cutV xs lo hi) → Q (.ref p) H'
theorem sl_seq {X : Cx} : SlR X (rSlQ X.K) := by
  intro pins s σ H x v vl vu lo hi sl Q I r hs hl hu h
  obtain ⟨a, xs, rfl, hx, k⟩ := h
  rcases hx with hx | hx
  · exact sl_list pins s σ H _ v vl vu lo hi sl Q I r hs hl hu ⟨a, xs, rfl, hx, fun p hp => k p _ (Same.add hp) (.inl (SqL.of L2.upd_same))⟩
  · refine sl_tupA pins s σ H _ v vl vu lo hi sl Q I r hs hl hu ⟨a, xs, rfl, hx, fun w => k a H (Same.refl _) (.inr ?_), fun _ p hp => k p _ (Same.add hp) (.inr (SqT.of L2.upd_same))⟩
    have e : cutV xs lo hi = xs := by
      unfold cutV
      rw [w.1, w.2]
      simp
    rw [e]
    exact hx
end XR
set_option Elab.async false
set_option linter.all false
set_option maxRecDepth 100000
set_option maxHeartbeats 4000000
/-! the layer of values: trees in the place of addresses; what is settled (G) never changes, what is open is numbered -/
namespace VL
open PySem PySem.Spec PyProof.Rows L2 XR
/-- settled values, as trees -/
inductive T where
  | non | bl (b : Bool) | int (i : Int) | str (s : Str) | ty (n : String) | cls (a : Addr)
  | lst (xs : List T) | tup (xs : List T) | scr (xs : List T) | rng (lo hi : Int) | obj (C : Addr) (fs : List (Str × T)) | dk (kvs : List (Key × T)) | dt (kvs : List (List Key × T)) | ho (o : Addr → HO)
/-- a tuple: tracked, or an object of the module -/
def SqX (K : PySem.W.Frag) (H : Hp) (a : Addr) (xs : List V) : Prop := H a = some (.tup xs) ∨ ∃ (o : Obj) (its : Array Value) (n : Nat), K.lookup a = some o ∧ o.cls = .type "tuple" ∧ o.data = .seq its n ∧ its.size ≤ sizeLine ∧ Vals xs its.toList
theorem SqX.t {K : PySem.W.Frag} {H : Hp} {a : Addr} {xs : List V} (h : SqX K H a xs) : SqT K H a xs := h.imp .inl id
theorem SqX.same {K : PySem.W.Frag} {H H' : Hp} {a : Addr} {xs : List V} (h : SqX K H a xs) (m : Same H H') : SqX K H' a xs := h.imp (m _ _) id
mutual
inductive Rp (K : PySem.W.Frag) (G : Hp) : V → T → Prop
  | non : Rp K G .non .non
  | bl (b : Bool) : Rp K G (.bl b) (.bl b)
  | int (i : Int) : Rp K G (.int i) (.int i)
  | str (s : Str) (h : PyData.strOk s = true) : Rp K G (.str s) (.str s)
  | ty (n : String) : Rp K G (.ty n) (.ty n)
  | cls (a : Addr) : Rp K G (.ref a) (.cls a)
  | lst {a : Addr} {xs : List V} {ts : List T} : G a = some (.lst xs) → RpAll K G xs ts → Rp K G (.ref a) (.lst ts)
  | scr {a : Addr} {xs : List V} {ts : List T} : SqL K G a xs → RpAll K G xs ts → Rp K G (.ref a) (.scr ts)
  | rng {a : Addr} {lo hi : Int} : G a = some (.rng lo hi) → Rp K G (.ref a) (.rng lo hi)
  | tup {a : Addr} {xs : List V} {ts : List T} : SqX K G a xs → RpAll K G xs ts → Rp K G (.ref a) (.tup ts)
  | obj {a C dx : Addr} {fs : List (Str × V)} {gs : List (Str × T)} : G a = some (.ins C dx fs) → fs.map Prod.fst = gs.map Prod.fst → RpAll K G (fs.map Prod.snd) (gs.map Prod.snd) → Rp K G (.ref a) (.obj C gs)
  | dk {a : Addr} {kvs : List (Key × V)} {ks : List (Key × T)} : G a = some (.dK kvs) → kvs.map Prod.fst = ks.map Prod.fst → RpAll K G (kvs.map Prod.snd) (ks.map Prod.snd) → Rp K G (.ref a) (.dk ks)
  | dt {a : Addr} {kvs : List (List Key × V)} {ks : List (List Key × T)} : G a = some (.dT kvs) → kvs.map Prod.fst = ks.map Prod.fst → RpAll K G (kvs.map Prod.snd) (ks.map Prod.snd) → Rp K G (.ref a) (.dt ks)
  | ho {a : Addr} {o : Addr → HO} : G a = some (o a) → Rp K G (.ref a) (.ho o)
inductive RpAll (K : PySem.W.Frag) (G : Hp) : List V → List T → Prop
  | nil : RpAll K G [] []
  | cons {v : V} {vs : List V} {t : T} {ts : List T} : Rp K G v t → RpAll K G vs ts → RpAll K G (v :: vs) (t :: ts)
end
/-- fields, pairs of a dict -/
def RpF {κ : Type} (K : PySem.W.Frag) (G : Hp) (fs : List (κ × V)) (gs : List (κ × T)) : Prop := fs.map Prod.fst = gs.map Prod.fst ∧ RpAll K G (fs.map Prod.snd) (gs.map Prod.snd)
section
variable {K : PySem.W.Frag} {G H G' H' : Hp} {v : V} {t : T} {vs xs ys : List V} {ts us : List T}
mutual
theorem Rp.mono (m : Same G G') : ∀ {v : V} {t : T}, Rp K G v t → Rp K G' v t
  | _, _, .non => .non
  | _, _, .bl b => .bl b
  | _, _, .int i => .int i
  | _, _, .str i h => .str i h
  | _, _, .ty i => .ty i
  | _, _, .cls i => .cls i
  | _, _, .lst s a => .lst (m _ _ s) (RpAll.mono m a)
  | _, _, .scr s a => .scr (SqL.same s m) (RpAll.mono m a)
  | _, _, .rng s => .rng (m _ _ s)
  | _, _, .tup s a => .tup (SqX.same s m) (RpAll.mono m a)
  | _, _, .obj s e a => .obj (m _ _ s) e (RpAll.mono m a)
  | _, _, .dk s e a => .dk (m _ _ s) e (RpAll.mono m a)
  | _, _, .dt s e a => .dt (m _ _ s) e (RpAll.mono m a)
  | _, _, .ho s => .ho (m _ _ s)
theorem RpAll.mono (m : Same G G') : ∀ {vs : List V} {ts : List T}, RpAll K G vs ts → RpAll K G' vs ts
  | _, _, .nil => .nil
  | _, _, .cons a b => .cons (Rp.mono m a) (RpAll.mono m b)
end
theorem RpF.mono {κ : Type} (m : Same G G') {fs : List (κ × V)} {gs : List (κ × T)} (h : RpF K G fs gs) : RpF K G' fs gs := ⟨h.1, h.2.mono m⟩
theorem RpAll.length : ∀ {vs : List V} {ts : List T}, RpAll K G vs ts → vs.length = ts.length
  | _, _, .nil => rfl
  | _, _, .cons _ b => congrArg (· + 1) (RpAll.length b)
theorem RpAll.get : ∀ {vs : List V} {ts : List T} {i : Nat} {v : V}, RpAll K G vs ts → vs[i]? = some v → ∃ t, ts[i]? = some t ∧ Rp K G v t
  | _, _, _, _, .nil, e => by cases e
  | _, _, 0, _, .cons a _, e => by cases e; exact ⟨_, rfl, a⟩
  | _, _, i + 1, _, .cons _ b, e => RpAll.get (i := i) b e
theorem RpAll.get' : ∀ {vs : List V} {ts : List T} {i : Nat} {t : T}, RpAll K G vs ts → ts[i]? = some t → ∃ v, vs[i]? = some v ∧ Rp K G v t
  | _, _, _, _, .nil, e => by cases e
  | _, _, 0, _, .cons a _, e => by cases e; exact ⟨_, rfl, a⟩
  | _, _, i + 1, _, .cons _ b, e => RpAll.get' (i := i) b e
theorem RpAll.append (q : RpAll K G ys us) : ∀ {vs : List V} {ts : List T}, RpAll K G vs ts → RpAll K G (vs ++ ys) (ts ++ us)
  | _, _, .nil => q
  | _, _, .cons a b => .cons a (RpAll.append q b)
theorem RpAll.snoc (p : RpAll K G vs ts) (q : Rp K G v t) : RpAll K G (vs ++ [v]) (ts ++ [t]) := RpAll.append (.cons q .nil) p
theorem RpAll.take : ∀ (n : Nat) {vs : List V} {ts : List T}, RpAll K G vs ts → RpAll K G (vs.take n) (ts.take n)
  | 0, _, _, _ => .nil
  | n + 1, _, _, .nil => .nil
  | n + 1, _, _, .cons a b => .cons a (RpAll.take n b)
theorem RpAll.drop : ∀ (n : Nat) {vs : List V} {ts : List T}, RpAll K G vs ts → RpAll K G (vs.drop n) (ts.drop n)
  | 0, _, _, h => h
  | n + 1, _, _, .nil => .nil
  | n + 1, _, _, .cons a b => RpAll.drop n b
theorem RpAll.set (q : Rp K G v t) : ∀ (n : Nat) {vs : List V} {ts : List T}, RpAll K G vs ts → RpAll K G (vs.set n v) (ts.set n t)
  | _, _, _, .nil => .nil
  | 0, _, _, .cons a b => .cons q b
  | n + 1, _, _, .cons a b => .cons a (RpAll.set q n b)
theorem RpAll.eraseIdx : ∀ (n : Nat) {vs : List V} {ts : List T}, RpAll K G vs ts → RpAll K G (vs.eraseIdx n) (ts.eraseIdx n)
  | _, _, _, .nil => .nil
  | 0, _, _, .cons a b => b
  | n + 1, _, _, .cons a b => .cons a (RpAll.eraseIdx n b)
theorem RpAll.reverse : ∀ {vs : List V} {ts : List T}, RpAll K G vs ts → RpAll K G vs.reverse ts.reverse
  | _, _, .nil => .nil
  | _, _, .cons a b => by rw [List.reverse_cons, List.reverse_cons]; exact RpAll.snoc (RpAll.reverse b) a
theorem RpAll.dropLast : ∀ {vs : List V} {ts : List T}, RpAll K G vs ts → RpAll K G vs.dropLast ts.dropLast
  | _, _, .nil => .nil
  | _, _, .cons a .nil => .nil
  | _, _, .cons a (.cons b c) => .cons a (RpAll.dropLast (.cons b c))
theorem RpAll.rep (h : RpAll K G vs ts) : ∀ n : Nat, RpAll K G (List.replicate n vs).flatten (List.replicate n ts).flatten
  | 0 => .nil
  | n + 1 => by rw [List.replicate_succ, List.replicate_succ, List.flatten_cons, List.flatten_cons]; exact RpAll.append (RpAll.rep h n) h
end
/-- what holds now: settled, an open object by its number, the handled error -/
inductive Rf where
  | val (t : T) | ref (k : Nat) | err (D : Addr) (gs : List (Str × T))
/-- an open object: its content; a settled one -/
inductive MO where
  | mu (t : T) | fz (t : T)
structure Env where
  nio : Nat
  sl : List (Option Rf)
  mem : List MO
/-- what stands around: the heap at the entry and what is settled of it, the open objects of the caller, the handled error -/
structure Bs where
  G0 : Hp
  H0 : Hp
  io : List Addr
  ex : Addr × Value × Option Addr
def MutR (K : PySem.W.Frag) (G H : Hp) (a : Addr) : T → Prop
  | .lst ts => ∃ acc, H a = some (.lst acc) ∧ RpAll K G acc ts
  | .obj C gs => ∃ dx fs, H a = some (.ins C dx fs) ∧ RpF K G fs gs
  | .dk ks => ∃ kvs, H a = some (.dK kvs) ∧ RpF K G kvs ks
  | .dt ks => ∃ kvs, H a = some (.dT kvs) ∧ RpF K G kvs ks
  | .ho o => H a = Option.some (o a)
  | _ => False
def MemR (K : PySem.W.Frag) (G H : Hp) (a : Addr) : MO → Prop
  | .mu t => G a = none ∧ MutR K G H a t
  | .fz t => G a ≠ none ∧ Rp K G (.ref a) t
def ErrF (K : PySem.W.Frag) (G : Hp) (d : Option Addr) (gs : List (Str × T)) : Prop := (d = none ∧ gs = []) ∨ ∃ dd fs, d = some dd ∧ G dd = some (.xd fs) ∧ RpF K G fs gs
def RR (K : PySem.W.Frag) (ex : Addr × Value × Option Addr) (as : List Addr) (G : Hp) : Rf → V → Prop
  | .val t, v => Rp K G v t
  | .ref k, v => ∃ a, as[k]? = some a ∧ v = .ref a
  | .err D gs, v => v = .ref ex.1 ∧ ex.2.1 = .ref D ∧ ErrF K G ex.2.2 gs
structure StR (K : PySem.W.Frag) (B : Bs) (as : List Addr) (γ : Env) (σ : L2.St) (G H : Hp) : Prop where
  vw : Same G H
  gg : Same B.G0 G
  out : ∀ a, B.H0 a ≠ none → B.G0 a = none → G a = none
  hh : ∀ a o, B.H0 a = some o → a ∉ B.io → H a = some o
  nio : γ.nio = B.io.length
  pre : B.io <+: as
  mlen : as.length = γ.mem.length
  nd : as.Nodup
  fresh : ∀ (k : Nat) (a : Addr), as[k]? = some a → B.io.length ≤ k → B.H0 a = none
  mem : ∀ (k : Nat) (a : Addr) (m : MO), as[k]? = some a → γ.mem[k]? = some m → MemR K G H a m
  slen : σ.length = γ.sl.length
  sl : ∀ (i : Nat) (r : Rf), γ.sl[i]? = some (some r) → ∃ v, σ[i]? = some (some v) ∧ RR K B.ex as G r v
section
variable {K : PySem.W.Frag} {G H G' H' : Hp} {a : Addr} {t : T} {m : MO} {ex : Addr × Value × Option Addr} {as as' : List Addr} {r : Rf} {v : V}
theorem MutR.some (h : MutR K G H a t) : H a ≠ none := by
  cases t with
  | lst ts => obtain ⟨_, e, _⟩ := h; rw [e]; exact fun z => by cases z
  | obj C gs => obtain ⟨_, _, e, _⟩ := h; rw [e]; exact fun z => by cases z
  | dk ks => obtain ⟨_, e, _⟩ := h; rw [e]; exact fun z => by cases z
  | dt ks => obtain ⟨_, e, _⟩ := h; rw [e]; exact fun z => by cases z
  | ho o => intro z; have h : H a = Option.some (o a) := h; rw [z] at h; cases h
  | _ => exact h.elim
theorem MutR.mono (h : MutR K G H a t) (g : Same G G') (e : H' a = H a) : MutR K G' H' a t := by
  cases t with
  | lst ts => obtain ⟨acc, q, z⟩ := h; exact ⟨acc, e.trans q, z.mono g⟩
  | obj C gs => obtain ⟨dx, fs, q, z⟩ := h; exact ⟨dx, fs, e.trans q, z.mono g⟩
  | dk ks => obtain ⟨kvs, q, z⟩ := h; exact ⟨kvs, e.trans q, z.mono g⟩
  | dt ks => obtain ⟨kvs, q, z⟩ := h; exact ⟨kvs, e.trans q, z.mono g⟩
  | ho o => exact e.trans h
  | _ => exact h.elim
theorem MutR.rp (h : MutR K G H a t) {o : HO} (e : H a = Option.some o) (g : Same G (upd G a o)) : Rp K (upd G a o) (.ref a) t := by
  cases t with
  | lst ts => obtain ⟨acc, q, z⟩ := h; rw [e] at q; cases q; exact .lst upd_same (z.mono g)
  | obj C gs => obtain ⟨dx, fs, q, z⟩ := h; rw [e] at q; cases q; exact .obj upd_same z.1 (z.2.mono g)
  | dk ks => obtain ⟨kvs, q, z⟩ := h; rw [e] at q; cases q; exact .dk upd_same z.1 (z.2.mono g)
  | dt ks => obtain ⟨kvs, q, z⟩ := h; rw [e] at q; cases q; exact .dt upd_same z.1 (z.2.mono g)
  | ho o2 => have h : H a = Option.some (o2 a) := h; rw [e] at h; cases h; exact .ho upd_same
  | _ => exact h.elim
theorem MemR.some (h : MemR K G H a m) (vw : Same G H) : H a ≠ none := by
  cases m with
  | mu t => exact h.2.some
  | fz t =>
    intro z
    obtain ⟨q, _⟩ := h
    exact q (Same.free vw z)
theorem MemR.mono (h : MemR K G H a m) (g : Same G G') (e : H' a = H a) (hn : G a = none → G' a = none) : MemR K G' H' a m := by
  cases m with
  | mu t => exact ⟨hn h.1, h.2.mono g e⟩
  | fz t => exact ⟨Same.some g h.1, h.2.mono g⟩
theorem RR.mono (h : RR K ex as G r v) (p : as <+: as') (g : Same G G') : RR K ex as' G' r v := by
  cases r with
  | val t => exact Rp.mono g h
  | ref k =>
    obtain ⟨a, e, z⟩ := h
    obtain ⟨q, rfl⟩ := p
    have hk : k < as.length := by
      rcases Nat.lt_or_ge k as.length with z | z
      · exact z
      · rw [List.getElem?_eq_none z] at e; cases e
    exact ⟨a, by rw [List.getElem?_append_left hk]; exact e, z⟩
  | err D gs =>
    obtain ⟨e1, e2, e3⟩ := h
    refine ⟨e1, e2, ?_⟩
    rcases e3 with e3 | ⟨dd, fs, x1, x2, x3⟩
    · exact .inl e3
    · exact .inr ⟨dd, fs, x1, g _ _ x2, x3.mono g⟩
theorem nodup_at {xs : List Addr} (h : xs.Nodup) {i j : Nat} {a : Addr} (h1 : xs[i]? = some a) (h2 : xs[j]? = some a) : i = j := by
  obtain ⟨l1, e1⟩ := List.getElem?_eq_some_iff.mp h1
  obtain ⟨l2, e2⟩ := List.getElem?_eq_some_iff.mp h2
  exact (List.getElem_inj h).mp (e1.trans e2.symm)
theorem pre_get {xs ys : List Addr} (p : xs <+: ys) {i : Nat} {a : Addr} (h : xs[i]? = some a) : ys[i]? = some a := by
  obtain ⟨q, rfl⟩ := p
  have hk : i < xs.length := by
    rcases Nat.lt_or_ge i xs.length with z | z
    · exact z
    · rw [List.getElem?_eq_none z] at h; cases h
  rw [List.getElem?_append_left hk]; exact h
end
section
variable {K : PySem.W.Frag} {B : Bs} {as : List Addr} {γ : Env} {σ : L2.St} {G H G' H' : Hp} {p a : Addr} {o : HO} {t : T} {m : MO} {k i : Nat} {r : Rf} {v : V}
theorem StR.at (S : StR K B as γ σ G H) (e : γ.mem[k]? = some m) : ∃ a, as[k]? = some a ∧ MemR K G H a m := by
  have hk : k < γ.mem.length := by
    rcases Nat.lt_or_ge k γ.mem.length with z | z
    · exact z
    · rw [List.getElem?_eq_none z] at e; cases e
  have hk' : k < as.length := by rw [S.mlen]; exact hk
  exact ⟨as[k], List.getElem?_eq_getElem hk', S.mem k _ m (List.getElem?_eq_getElem hk') e⟩
theorem StR.known (S : StR K B as γ σ G H) (e : as[k]? = some a) : H a ≠ none := by
  have hk' : k < as.length := by
    rcases Nat.lt_or_ge k as.length with z | z
    · exact z
    · rw [List.getElem?_eq_none z] at e; cases e
  have hk : k < γ.mem.length := by rw [← S.mlen]; exact hk'
  exact (S.mem k a _ e (List.getElem?_eq_getElem hk)).some S.vw
theorem StR.io_known (S : StR K B as γ σ G H) (h : a ∈ B.io) : H a ≠ none := by
  obtain ⟨k, hk, e⟩ := List.getElem_of_mem h
  exact S.known (pre_get S.pre (i := k) (by rw [List.getElem?_eq_getElem hk, e]))
/-- a new place: not of the entry -/
theorem StR.new0 (S : StR K B as γ σ G H) (h : H p = none) : B.H0 p = none := by
  cases e : B.H0 p with
  | none => rfl
  | some o =>
    by_cases hp : p ∈ B.io
    · exact absurd h (S.io_known hp)
    · rw [S.hh p o e hp] at h; cases h
theorem StR.newA (S : StR K B as γ σ G H) (h : H p = none) : p ∉ as := fun hm => by
  obtain ⟨k, hk, e⟩ := List.getElem_of_mem hm
  exact S.known (k := k) (by rw [List.getElem?_eq_getElem hk, e]) h
theorem StR.newG (S : StR K B as γ σ G H) (h : H p = none) : G p = none := Same.free S.vw h
theorem StR.neA (S : StR K B as γ σ G H) (h : H p = none) (e : as[k]? = some a) : a ≠ p := fun z => S.known e (z ▸ h)
/-- the heap grows by what is not looked at -/
theorem StR.grow (S : StR K B as γ σ G H) (x : Same H H') : StR K B as γ σ G H' :=
  ⟨S.vw.trans x, S.gg, S.out, fun a o e n => x _ _ (S.hh a o e n), S.nio, S.pre, S.mlen, S.nd, S.fresh, fun k a m e1 e2 => by
    have hm := S.mem k a m e1 e2
    obtain ⟨o, ho⟩ := Option.ne_none_iff_exists'.mp (hm.some S.vw)
    exact hm.mono (Same.refl _) (by rw [ho, x _ _ ho]) (fun z => z), S.slen, S.sl⟩
/-- an open object is laid -/
theorem StR.alloc (S : StR K B as γ σ G H) (h : H p = none) (q : MutR K G (L2.upd H p o) p t) : StR K B (as ++ [p]) { γ with mem := γ.mem ++ [.mu t] } σ G (L2.upd H p o) := by
  have x : Same H (L2.upd H p o) := Same.add h
  have S1 := S.grow x
  have na := S.newA h
  refine ⟨S1.vw, S.gg, S.out, S1.hh, S.nio, S.pre.trans (List.prefix_append _ _), by simp [S.mlen], ?_, ?_, ?_, S.slen, fun i r e => ?_⟩
  · rw [List.nodup_append]
    exact ⟨S.nd, by simp, fun a ha b hb => by rw [List.mem_singleton.mp hb]; exact fun z => na (z ▸ ha)⟩
  · intro k a e hk
    rcases Nat.lt_trichotomy k as.length with hlt | rfl | hgt
    · rw [List.getElem?_append_left hlt] at e; exact S.fresh k a e hk
    · rw [List.getElem?_append_right (Nat.le_refl _), Nat.sub_self] at e
      obtain rfl : p = a := by simpa using e
      exact S.new0 h
    · rw [List.getElem?_eq_none (by simp; omega)] at e; cases e
  · intro k a m e1 e2
    rcases Nat.lt_trichotomy k as.length with hlt | rfl | hgt
    · rw [List.getElem?_append_left hlt] at e1
      have e2 : (γ.mem ++ [MO.mu t])[k]? = some m := e2
      rw [List.getElem?_append_left (by rw [← S.mlen]; exact hlt)] at e2
      exact S1.mem k a m e1 e2
    · rw [List.getElem?_append_right (Nat.le_refl _), Nat.sub_self] at e1
      obtain rfl : p = a := by simpa using e1
      have e2 : (γ.mem ++ [MO.mu t])[as.length]? = some m := e2
      rw [S.mlen, List.getElem?_append_right (Nat.le_refl _), Nat.sub_self] at e2
      obtain rfl : MO.mu t = m := by simpa using e2
      exact ⟨S.newG h, q⟩
    · rw [List.getElem?_eq_none (by simp; omega)] at e1; cases e1
  · obtain ⟨v, e1, e2⟩ := S.sl i r e
    exact ⟨v, e1, e2.mono (List.prefix_append _ _) (Same.refl _)⟩
/-- what is settled grows -/
theorem StR.view (S : StR K B as γ σ G H) (g : Same G G') (vw : Same G' H) (hn : ∀ a, G a = none → G' a ≠ none → B.H0 a = none ∧ a ∉ as) : StR K B as γ σ G' H := by
  refine ⟨vw, S.gg.trans g, fun a h1 h2 => ?_, S.hh, S.nio, S.pre, S.mlen, S.nd, S.fresh, fun k a m e1 e2 => ?_, S.slen, fun i r e => ?_⟩
  · cases e : G' a with
    | none => rfl
    | some o => exact absurd (hn a (S.out a h1 h2) (by rw [e]; exact fun z => by cases z)).1 h1
  · refine (S.mem k a m e1 e2).mono g rfl fun z => ?_
    cases e : G' a with
    | none => rfl
    | some o => exact absurd (List.mem_of_getElem? e1) (hn a z (by rw [e]; exact fun z => by cases z)).2
  · obtain ⟨v, e1, e2⟩ := S.sl i r e
    exact ⟨v, e1, e2.mono (List.prefix_refl _) g⟩
/-- a settled object is laid -/
theorem StR.lay (S : StR K B as γ σ G H) (h : H p = none) : StR K B as γ σ (L2.upd G p o) (L2.upd H p o) ∧ Same G (L2.upd G p o) := by
  have g : Same G (L2.upd G p o) := Same.add (S.newG h)
  refine ⟨(S.grow (Same.add h)).view g (Same.upd2 S.vw) fun a z1 z2 => ?_, g⟩
  by_cases e : a = p
  · subst e; exact ⟨S.new0 h, S.newA h⟩
  · rw [upd_ne e] at z2; exact absurd z1 z2
/-- an open object is settled -/
theorem StR.freeze (S : StR K B as γ σ G H) (e : γ.mem[k]? = some (.mu t)) (hk : γ.nio ≤ k) : ∃ a G', as[k]? = some a ∧ StR K B as { γ with mem := γ.mem.set k (.fz t) } σ G' H ∧ Same G G' ∧ Rp K G' (.ref a) t := by
  obtain ⟨a, ea, hn, q⟩ := S.at e
  obtain ⟨o, ho⟩ := Option.ne_none_iff_exists'.mp q.some
  have g : Same G (L2.upd G a o) := Same.add hn
  have f0 : B.H0 a = none := S.fresh k a ea (by rw [← S.nio]; exact hk)
  have rp : Rp K (L2.upd G a o) (.ref a) t := q.rp ho g
  refine ⟨a, L2.upd G a o, ea, ⟨fun b u z => ?_, S.gg.trans g, fun b h1 h2 => ?_, S.hh, S.nio, S.pre, by simp [S.mlen], S.nd, S.fresh, fun j b m e1 e2 => ?_, S.slen, fun i r z => ?_⟩, g, rp⟩
  · by_cases z2 : b = a
    · subst z2; rw [upd_same] at z; cases z; exact ho
    · rw [upd_ne z2] at z; exact S.vw _ _ z
  · have : b ≠ a := fun z => h1 (z ▸ f0)
    rw [upd_ne this]; exact S.out b h1 h2
  · by_cases hj : j = k
    · subst hj
      rw [ea] at e1; cases e1
      have hl : j < γ.mem.length := by rw [← S.mlen]; exact (List.getElem?_eq_some_iff.mp ea).1
      have e2 : (γ.mem.set j (.fz t))[j]? = some m := e2
      rw [List.getElem?_set_self hl] at e2
      cases e2
      exact ⟨by rw [upd_same]; simp, rp⟩
    · have e2 : (γ.mem.set k (.fz t))[j]? = some m := e2
      rw [List.getElem?_set_ne (Ne.symm hj)] at e2
      refine (S.mem j b m e1 e2).mono g rfl fun z => ?_
      have : b ≠ a := fun z2 => hj (nodup_at S.nd e1 (z2 ▸ ea))
      rw [upd_ne this]; exact z
  · obtain ⟨v, e1, e2⟩ := S.sl i r z
    exact ⟨v, e1, e2.mono (List.prefix_refl _) g⟩
/-- an open object is changed -/
theorem StR.write (S : StR K B as γ σ G H) {m0 : T} (e : γ.mem[k]? = some (.mu m0)) (ea : as[k]? = some a) (q : MutR K G (L2.upd H a o) a t) : StR K B as { γ with mem := γ.mem.set k (.mu t) } σ G (L2.upd H a o) := by
  have hn : G a = none := (S.mem k a _ ea e).1
  refine ⟨fun b u z => ?_, S.gg, S.out, fun b u h1 h2 => ?_, S.nio, S.pre, by simp [S.mlen], S.nd, S.fresh, fun j b m e1 e2 => ?_, S.slen, S.sl⟩
  · rw [upd_ne (ne_of_none z hn)]; exact S.vw _ _ z
  · have : b ≠ a := by
      rintro rfl
      by_cases hk : k < B.io.length
      · refine h2 ?_
        obtain ⟨r, hr⟩ := S.pre
        rw [← hr, List.getElem?_append_left hk] at ea
        exact List.mem_of_getElem? ea
      · rw [S.fresh k b ea (by omega)] at h1; cases h1
    rw [upd_ne this]; exact S.hh b u h1 h2
  · by_cases hj : j = k
    · subst hj
      rw [ea] at e1; cases e1
      have hl : j < γ.mem.length := by rw [← S.mlen]; exact (List.getElem?_eq_some_iff.mp ea).1
      have e2 : (γ.mem.set j (.mu t))[j]? = some m := e2
      rw [List.getElem?_set_self hl] at e2
      cases e2
      exact ⟨hn, q⟩
    · have e2 : (γ.mem.set k (.mu t))[j]? = some m := e2
      rw [List.getElem?_set_ne (Ne.symm hj)] at e2
      have : b ≠ a := fun z2 => hj (nodup_at S.nd e1 (z2 ▸ ea))
      exact (S.mem j b m e1 e2).mono (Same.refl _) (upd_ne this) fun z => z
/-- a slot is stored -/
theorem StR.store (S : StR K B as γ σ G H) (q : RR K B.ex as G r v) (i : Nat) : StR K B as { γ with sl := γ.sl.set i (some r) } (σ.set i (some v)) G H := by
  refine ⟨S.vw, S.gg, S.out, S.hh, S.nio, S.pre, S.mlen, S.nd, S.fresh, S.mem, by simp [S.slen], fun j r' e => ?_⟩
  have e : (γ.sl.set i (some r))[j]? = some (some r') := e
  by_cases hj : j = i
  · subst hj
    have hl : j < γ.sl.length := by
      rcases Nat.lt_or_ge j γ.sl.length with z | z
      · exact z
      · rw [List.getElem?_eq_none (by simpa using z)] at e; cases e
    rw [List.getElem?_set_self hl] at e
    cases e
    exact ⟨v, List.getElem?_set_self (by rw [S.slen]; exact hl), q⟩
  · rw [List.getElem?_set_ne (Ne.symm hj)] at e ⊢
    exact S.sl j r' e
/-- a slot is forgotten; the slots may then hold anything -/
theorem StR.unset (S : StR K B as γ σ G H) (i : Nat) : StR K B as { γ with sl := γ.sl.set i none } σ G H := by
  refine ⟨S.vw, S.gg, S.out, S.hh, S.nio, S.pre, S.mlen, S.nd, S.fresh, S.mem, by simp [S.slen], fun j r' e => ?_⟩
  have e : (γ.sl.set i none)[j]? = some (some r') := e
  by_cases hj : j = i
  · subst hj
    rcases Nat.lt_or_ge j γ.sl.length with z | z
    · rw [List.getElem?_set_self z] at e; cases e
    · rw [List.getElem?_eq_none (by simpa using z)] at e; cases e
  · rw [List.getElem?_set_ne (Ne.symm hj)] at e
    exact S.sl j r' e
theorem StR.slots (S : StR K B as γ σ G H) {σ' : L2.St} (hl : σ'.length = σ.length) (h : ∀ (i : Nat) (r : Rf), γ.sl[i]? = some (some r) → σ'[i]? = σ[i]?) : StR K B as γ σ' G H :=
  ⟨S.vw, S.gg, S.out, S.hh, S.nio, S.pre, S.mlen, S.nd, S.fresh, S.mem, hl.trans S.slen, fun i r e => by rw [h i r e]; exact S.sl i r e⟩
end
/-! ### forgetting -/
/-- γ is told more weakly: slots forgotten, open objects settled, the last open objects dropped (not below n0) -/
inductive Le (n0 : Nat) : Env → Env → Prop
  | refl (γ : Env) : Le n0 γ γ
  | unset {γ γ' : Env} (i : Nat) : Le n0 { γ with sl := γ.sl.set i none } γ' → Le n0 γ γ'
  | freeze {γ γ' : Env} {t : T} (k : Nat) : γ.mem[k]? = some (.mu t) → γ.nio ≤ k → Le n0 { γ with mem := γ.mem.set k (.fz t) } γ' → Le n0 γ γ'
  | toVal {γ γ' : Env} {t : T} {k : Nat} (i : Nat) : γ.sl[i]? = some (some (.ref k)) → γ.mem[k]? = some (.fz t) → Le n0 { γ with sl := γ.sl.set i (some (.val t)) } γ' → Le n0 γ γ'
  | cut {γ γ' : Env} (n : Nat) : n0 ≤ n → γ.nio ≤ n → (∀ (i k : Nat), γ.sl[i]? = some (some (.ref k)) → k < n) → Le n0 { γ with mem := γ.mem.take n } γ' → Le n0 γ γ'
theorem StR.le {K : PySem.W.Frag} {B : Bs} {n0 : Nat} {γ γ' : Env} (h : Le n0 γ γ') : ∀ {as as0 : List Addr} {σ : L2.St} {G H : Hp}, StR K B as γ σ G H → as0 <+: as → as0.length = n0 →
    ∃ as' G', as0 <+: as' ∧ Same G G' ∧ StR K B as' γ' σ G' H := by
  induction h with
  | refl γ => intro as as0 σ G H S p _; exact ⟨as, G, p, Same.refl _, S⟩
  | unset i _ ih => intro as as0 σ G H S p l; exact ih (S.unset i) p l
  | freeze k e hk _ ih =>
    intro as as0 σ G H S p l
    obtain ⟨a, G', _, S', g, _⟩ := S.freeze e hk
    obtain ⟨as2, G2, x1, x2, x3⟩ := ih S' p l
    exact ⟨as2, G2, x1, g.trans x2, x3⟩
  | toVal i e1 e2 _ ih =>
    intro as as0 σ G H S p l
    obtain ⟨v, hv, a, ea, rfl⟩ := S.sl i _ e1
    obtain ⟨_, rp⟩ := S.mem _ a _ ea e2
    have S' := S.store (r := .val _) (v := .ref a) rp i
    have e : σ.set i (some (V.ref a)) = σ := by
      apply List.ext_getElem?
      intro j
      by_cases hj : j = i
      · subst hj
        rw [List.getElem?_set_self (List.getElem?_eq_some_iff.mp hv).1, hv]
      · rw [List.getElem?_set_ne (Ne.symm hj)]
    rw [e] at S'
    exact ih S' p l
  | cut n h1 h2 h3 _ ih =>
    intro as as0 σ G H S p l
    refine ih (as := as.take n) ⟨S.vw, S.gg, S.out, S.hh, S.nio, ?_, by simp [S.mlen], S.nd.sublist (List.take_sublist _ _), ?_, ?_, S.slen, ?_⟩ ?_ l
    · have := S.pre
      rw [List.prefix_take_iff]
      exact ⟨this, by rw [← S.nio]; exact h2⟩
    · intro k a e hk
      rw [List.getElem?_take] at e
      split at e
      · exact S.fresh k a e hk
      · cases e
    · intro k a m e1 e2
      rw [List.getElem?_take] at e1
      have e2 : (List.take n _)[k]? = some m := e2
      rw [List.getElem?_take] at e2
      split at e1
      · rename_i hlt
        rw [if_pos hlt] at e2
        exact S.mem k a m e1 e2
      · cases e1
    · intro i r e
      obtain ⟨v, e1, e2⟩ := S.sl i r e
      refine ⟨v, e1, ?_⟩
      cases r with
      | val t => exact e2
      | ref k =>
        obtain ⟨a, x1, x2⟩ := e2
        exact ⟨a, by rw [List.getElem?_take, if_pos (h3 i k e)]; exact x1, x2⟩
      | err D gs => exact e2
    · rw [List.prefix_take_iff]
      exact ⟨p, by omega⟩
end VL
set_option Elab.async false
set_option linter.all false
set_option maxRecDepth 100000
set_option maxHeartbeats 4000000
/-! readings over values: expressions -/
namespace VL
open PySem PySem.Spec PyProof.Rows L2 XR
abbrev VErr := Addr × List (Str × T)
abbrev XQ := VErr → Env → Prop
abbrev RQ := Rf → Env → Prop
abbrev VW := Env → RQ → XQ → Prop
/-- what goes on behind: from the value's side to the heap's -/
def KontP {α β : Type} (K : PySem.W.Frag) (B : Bs) (as : List Addr) (σ : L2.St) (G : Hp) (R : List Addr → Hp → Hp → α → β → Prop) (Q : β → Hp → Prop) (Qv : α → Env → Prop) : Prop :=
  ∀ (a : α) (γ' : Env) (as' : List Addr) (b : β) (G' H' : Hp), as <+: as' → Same G G' → StR K B as' γ' σ G' H' → R as' G' H' a b → Qv a γ' → Q b H'
def KontX (K : PySem.W.Frag) (B : Bs) (as : List Addr) (σ : L2.St) (G : Hp) (E : XK) (Xv : XQ) : Prop :=
  ∀ (e : VErr) (γ' : Env) (as' : List Addr) (d : Option Addr) (G' H' : Hp), as <+: as' → Same G G' → StR K B as' γ' σ G' H' → ErrF K G' d e.2 → Xv e γ' → E (.ref e.1) d H'
def rR (K : PySem.W.Frag) (B : Bs) : List Addr → Hp → Hp → Rf → V → Prop := fun as G _ r v => RR K B.ex as G r v
def rB : List Addr → Hp → Hp → Bool → Bool → Prop := fun _ _ _ a b => a = b
def RRs (K : PySem.W.Frag) (ex : Addr × Value × Option Addr) (as : List Addr) (G : Hp) : List Rf → List V → Prop := Paired (RR K ex as G)
def rA (K : PySem.W.Frag) (B : Bs) : List Addr → Hp → Hp → List Rf → List V → Prop := fun as G _ rs vs => RRs K B.ex as G rs vs
theorem KontP.mono {α β : Type} {K : PySem.W.Frag} {B : Bs} {as as1 : List Addr} {σ : L2.St} {G G1 : Hp} {R : List Addr → Hp → Hp → α → β → Prop} {Q : β → Hp → Prop} {Qv : α → Env → Prop} (k : KontP K B as σ G R Q Qv) (p : as <+: as1) (g : Same G G1) : KontP K B as1 σ G1 R Q Qv :=
  fun a γ' as' b G' H' p' g' S r q => k a γ' as' b G' H' (p.trans p') (g.trans g') S r q
theorem KontX.mono {K : PySem.W.Frag} {B : Bs} {as as1 : List Addr} {σ : L2.St} {G G1 : Hp} {E : XK} {Xv : XQ} (k : KontX K B as σ G E Xv) (p : as <+: as1) (g : Same G G1) : KontX K B as1 σ G1 E Xv :=
  fun e γ' as' d G' H' p' g' S r q => k e γ' as' d G' H' (p.trans p') (g.trans g') S r q
theorem RRs.mono {K : PySem.W.Frag} {ex : Addr × Value × Option Addr} {as as' : List Addr} {G G' : Hp} (p : as <+: as') (g : Same G G') : ∀ {rs : List Rf} {vs : List V}, RRs K ex as G rs vs → RRs K ex as' G' rs vs
  | _, _, .nil => .nil
  | _, _, .cons a b => .cons (a.mono p g) (RRs.mono p g b)
theorem kval {K : PySem.W.Frag} {B : Bs} {as : List Addr} {γ : Env} {σ : L2.St} {G H : Hp} {Q : VK} {Qv : RQ} {v : V} {t : T} (k : KontP K B as σ G (rR K B) Q Qv) (S : StR K B as γ σ G H) (rp : Rp K G v t) (h : Qv (.val t) γ) : Q v H :=
  k (.val t) γ as v G H (List.prefix_refl _) (Same.refl _) S rp h
class VE (K : PySem.W.Frag) (B : Bs) (E : L2.St → XK) (t : TE) (w : outParam VW) : Prop where
  run : ∀ {as : List Addr} {γ : Env} {σ : L2.St} {G H : Hp} {Q : VK} {Qv : RQ} {Xv : XQ}, StR K B as γ σ G H → w γ Qv Xv → KontP K B as σ G (rR K B) Q Qv → KontX K B as σ G (E σ) Xv → t σ H Q
class VT (K : PySem.W.Frag) (B : Bs) (E : L2.St → XK) (t : TT) (w : outParam (Env → (Bool → Env → Prop) → XQ → Prop)) : Prop where
  run : ∀ {as : List Addr} {γ : Env} {σ : L2.St} {G H : Hp} {Q : Bool → Hp → Prop} {Qv : Bool → Env → Prop} {Xv : XQ}, StR K B as γ σ G H → w γ Qv Xv → KontP K B as σ G rB Q Qv → KontX K B as σ G (E σ) Xv → t σ H Q
class VA (K : PySem.W.Frag) (B : Bs) (E : L2.St → XK) (t : TA) (w : outParam (Env → (List Rf → Env → Prop) → XQ → Prop)) : Prop where
  run : ∀ {as : List Addr} {γ : Env} {σ : L2.St} {G H : Hp} {Q : List V → Hp → Prop} {Qv : List Rf → Env → Prop} {Xv : XQ}, StR K B as γ σ G H → w γ Qv Xv → KontP K B as σ G (rA K B) Q Qv → KontX K B as σ G (E σ) Xv → t σ H Q
/-- by values: one, two, several -/
class V1 (K : PySem.W.Frag) (B : Bs) (E : L2.St → XK) (r : V → Hp → VK → Prop) (w : outParam (Rf → VW)) : Prop where
  run : ∀ {as : List Addr} {γ : Env} {σ : L2.St} {G H : Hp} {x : V} {rx : Rf} {Q : VK} {Qv : RQ} {Xv : XQ}, StR K B as γ σ G H → RR K B.ex as G rx x → w rx γ Qv Xv → KontP K B as σ G (rR K B) Q Qv → KontX K B as σ G (E σ) Xv → r x H Q
class V2 (K : PySem.W.Frag) (B : Bs) (E : L2.St → XK) (r : R2) (w : outParam (Rf → Rf → VW)) : Prop where
  run : ∀ {as : List Addr} {γ : Env} {σ : L2.St} {G H : Hp} {x y : V} {rx ry : Rf} {Q : VK} {Qv : RQ} {Xv : XQ}, StR K B as γ σ G H → RR K B.ex as G rx x → RR K B.ex as G ry y → w rx ry γ Qv Xv → KontP K B as σ G (rR K B) Q Qv → KontX K B as σ G (E σ) Xv → r x y H Q
class VC (K : PySem.W.Frag) (B : Bs) (E : L2.St → XK) (r : List V → Hp → VK → Prop) (w : outParam (List Rf → VW)) : Prop where
  run : ∀ {as : List Addr} {γ : Env} {σ : L2.St} {G H : Hp} {vs : List V} {rs : List Rf} {Q : VK} {Qv : RQ} {Xv : XQ}, StR K B as γ σ G H → RRs K B.ex as G rs vs → w rs γ Qv Xv → KontP K B as σ G (rR K B) Q Qv → KontX K B as σ G (E σ) Xv → r vs H Q
class VM (K : PySem.W.Frag) (B : Bs) (E : L2.St → XK) (r : V → List V → Hp → VK → Prop) (w : outParam (Rf → List Rf → VW)) : Prop where
  run : ∀ {as : List Addr} {γ : Env} {σ : L2.St} {G H : Hp} {x : V} {rx : Rf} {vs : List V} {rs : List Rf} {Q : VK} {Qv : RQ} {Xv : XQ}, StR K B as γ σ G H → RR K B.ex as G rx x → RRs K B.ex as G rs vs → w rx rs γ Qv Xv → KontP K B as σ G (rR K B) Q Qv → KontX K B as σ G (E σ) Xv → r x vs H Q
/-! ### settling, looking -/
def nth {α : Type} : List α → Nat → Option α
  | [], _ => none
  | a :: _, 0 => some a
  | _ :: l, n + 1 => nth l n
theorem nth_eq {α : Type} : ∀ (l : List α) (n : Nat), nth l n = l[n]?
  | [], n => by simp [nth]
  | a :: _, 0 => rfl
  | _ :: l, n + 1 => by show nth l n = _; rw [nth_eq l n]; rfl
/-- there is one -/
def isS {α : Type} (o : Option α) (Q : α → Prop) : Prop := match o with
  | some t => Q t
  | none => False
theorem isS_i {α : Type} {o : Option α} {t : α} {Q : α → Prop} (e : o = some t) (h : Q t) : isS o Q := by rw [e]; exact h
theorem isS_e {α : Type} {o : Option α} {Q : α → Prop} (h : isS o Q) : ∃ t, o = some t ∧ Q t := by
  cases o with
  | none => exact h.elim
  | some t => exact ⟨t, rfl, h⟩
/-- the item at an index, from the end if below zero -/
def atL {α : Type} (ts : List α) : Int → Option α
  | .ofNat n => nth ts n
  | .negSucc n => nth ts.reverse n
theorem atL_eq {α : Type} (ts : List α) (i : Int) : atL ts i = L2.atI ts i := by
  unfold L2.atI ixN
  cases i with
  | ofNat n =>
    have h0 : (0 : Int) ≤ Int.ofNat n := Int.natCast_nonneg n
    rw [if_pos h0]
    show nth ts n = _
    rw [nth_eq]
    by_cases h : Int.ofNat n < (ts.length : Int)
    · rw [if_pos h]; rfl
    · rw [if_neg h]
      have h : ¬ ((n : Int) < (ts.length : Int)) := h
      exact List.getElem?_eq_none (by omega)
  | negSucc n =>
    have h0 : ¬ (0 : Int) ≤ Int.negSucc n := by omega
    rw [if_neg h0]
    show nth ts.reverse n = _
    rw [nth_eq]
    by_cases h : -(ts.length : Int) ≤ Int.negSucc n
    · rw [if_pos h]
      have hn : n < ts.length := by omega
      rw [List.getElem?_reverse hn]
      show _ = ts[(Int.negSucc n + (ts.length : Int)).toNat]?
      congr 1
      omega
    · rw [if_neg h]
      exact List.getElem?_eq_none (by rw [List.length_reverse]; omega)
theorem atL_nat {α : Type} (ts : List α) {i : Int} (h : 0 ≤ i) : atL ts i = ts[i.toNat]? := by
  obtain ⟨n, rfl⟩ := Int.eq_ofNat_of_zero_le h
  show nth ts n = _
  rw [nth_eq]; rfl
theorem atL_at {α : Type} (ts : List α) {i : Int} (h : 0 ≤ i) (h1 : i < (ts.length : Int)) : ∃ t, atL ts i = some t ∧ ts[i.toNat]? = some t := by
  have hl : i.toNat < ts.length := by omega
  exact ⟨ts[i.toNat], by rw [atL_nat ts h, List.getElem?_eq_getElem hl], List.getElem?_eq_getElem hl⟩
theorem atL_last {α : Type} (ts : List α) (t : α) : atL (ts ++ [t]) (-1) = some t := by
  show nth (ts ++ [t]).reverse 0 = _
  rw [List.reverse_append]; rfl
def setN {α : Type} : List α → Nat → α → Option (List α)
  | [], _, _ => none
  | _ :: l, 0, t => some (t :: l)
  | a :: l, n + 1, t => (setN l n t).map (a :: ·)
theorem setN_eq {α : Type} : ∀ (l : List α) (n : Nat) (t : α), setN l n t = if n < l.length then some (l.set n t) else none
  | [], n, t => rfl
  | a :: l, 0, t => rfl
  | a :: l, n + 1, t => by
    show (setN l n t).map _ = _
    rw [setN_eq l n t]
    by_cases h : n < l.length
    · rw [if_pos h, if_pos (by simpa using h)]; rfl
    · rw [if_neg h, if_neg (by simpa using h)]; rfl
/-- a list with the item at i replaced -/
def setL {α : Type} (ts : List α) (i : Int) (t : α) : Option (List α) := match i with
  | .ofNat n => setN ts n t
  | .negSucc n => match Nat.blt n ts.length with
    | true => setN ts (ts.length - 1 - n) t
    | false => none
theorem setL_ix {α : Type} {ts us : List α} {i : Int} {t : α} (h : setL ts i t = some us) : ∃ j, ixN ts.length i = some j ∧ us = ts.set j t := by
  unfold ixN
  cases i with
  | ofNat n =>
    have h0 : (0 : Int) ≤ Int.ofNat n := Int.natCast_nonneg n
    have h : setN ts n t = some us := h
    rw [setN_eq] at h
    split at h
    · rename_i hl
      have h1 : Int.ofNat n < (ts.length : Int) := by have := hl; show (n : Int) < _; omega
      exact ⟨n, by rw [if_pos h0, if_pos h1]; rfl, (Option.some.inj h).symm⟩
    · cases h
  | negSucc n =>
    have h0 : ¬ (0 : Int) ≤ Int.negSucc n := by omega
    have h : (match Nat.blt n ts.length with | true => setN ts (ts.length - 1 - n) t | false => none) = some us := h
    split at h
    · rename_i hb
      have hl : n < ts.length := by simpa [Nat.blt_eq] using hb
      rw [setN_eq, if_pos (by omega)] at h
      refine ⟨ts.length - 1 - n, ?_, (Option.some.inj h).symm⟩
      rw [if_neg h0, if_pos (by omega)]
      congr 1
      omega
    · cases h
theorem setL_nat {α : Type} (ts : List α) {i : Int} (t : α) (h : 0 ≤ i) (h1 : i < (ts.length : Int)) : setL ts i t = some (ts.set i.toNat t) := by
  obtain ⟨n, rfl⟩ := Int.eq_ofNat_of_zero_le h
  show setN ts n t = _
  rw [setN_eq, if_pos (by omega)]; rfl
/-- the last item, and what is before it -/
def popL {α : Type} : List α → Option (α × List α)
  | [] => none
  | [a] => some (a, [])
  | a :: b :: r => (popL (b :: r)).map fun p => (p.1, a :: p.2)
theorem popL_eq {α : Type} : ∀ {ts : List α} {p : α × List α}, popL ts = some p → ts[ts.length - 1]? = some p.1 ∧ ts.dropLast = p.2
  | [], _, h => by cases h
  | [a], _, h => by cases h; exact ⟨rfl, rfl⟩
  | a :: b :: r, p, h => by
    have h : (popL (b :: r)).map (fun p => (p.1, a :: p.2)) = some p := h
    cases e : popL (b :: r) with
    | none => rw [e] at h; cases h
    | some q =>
      rw [e] at h
      cases h
      obtain ⟨h1, h2⟩ := popL_eq e
      refine ⟨?_, by show a :: (b :: r).dropLast = _; rw [h2]⟩
      have : (a :: b :: r)[(a :: b :: r).length - 1]? = (b :: r)[(b :: r).length - 1]? := by simp
      rw [this]; exact h1
theorem popL_snoc {α : Type} (t : α) : ∀ ts : List α, popL (ts ++ [t]) = some (t, ts)
  | [] => rfl
  | [a] => rfl
  | a :: b :: r => by
    show (popL ((b :: r) ++ [t])).map _ = _
    rw [popL_snoc t (b :: r)]; rfl
def popN {α : Type} : List α → Nat → Option (α × List α)
  | [], _ => none
  | a :: l, 0 => some (a, l)
  | a :: l, n + 1 => (popN l n).map fun p => (p.1, a :: p.2)
theorem popN_eq {α : Type} : ∀ (l : List α) (n : Nat), popN l n = l[n]?.map fun a => (a, l.eraseIdx n)
  | [], n => by simp [popN]
  | a :: l, 0 => rfl
  | a :: l, n + 1 => by
    show (popN l n).map _ = _
    rw [popN_eq l n]
    cases e : l[n]? with
    | none => simp [e]
    | some x => simp [e]
def Env.put (γ : Env) (k : Nat) (m : MO) : Env := { γ with mem := γ.mem.set k m }
def Env.push (γ : Env) (m : MO) : Env := { γ with mem := γ.mem ++ [m] }
def Env.set (γ : Env) (i : Nat) (r : Rf) : Env := { γ with sl := γ.sl.set i (some r) }
def Env.unset (γ : Env) (i : Nat) : Env := { γ with sl := γ.sl.set i none }
/-- the value as it is settled -/
def toT (r : Rf) (γ : Env) (Q : T → Env → Prop) : Prop :=
  match r with
  | .val t => Q t γ
  | .ref k => match nth γ.mem k with
    | some (.fz t) => Q t γ
    | some (.mu t) => match Nat.blt k γ.nio with
      | true => False
      | false => Q t (γ.put k (.fz t))
    | none => False
  | .err _ _ => False
/-- the value as it is now -/
def peek (r : Rf) (γ : Env) (Q : T → Prop) : Prop :=
  match r with
  | .val t => Q t
  | .ref k => match nth γ.mem k with
    | some (.fz t) => Q t
    | some (.mu t) => Q t
    | none => False
  | .err _ _ => False
section
variable {K : PySem.W.Frag} {B : Bs} {as : List Addr} {γ : Env} {σ : L2.St} {G H : Hp} {r : Rf} {v : V}
theorem toT_ok {Q : T → Env → Prop} (S : StR K B as γ σ G H) (rr : RR K B.ex as G r v) (h : toT r γ Q) : ∃ t γ' G', Same G G' ∧ StR K B as γ' σ G' H ∧ Rp K G' v t ∧ Q t γ' := by
  cases r with
  | val t => exact ⟨t, γ, G, Same.refl _, S, rr, h⟩
  | ref k =>
    obtain ⟨a, ea, rfl⟩ := rr
    unfold toT at h
    simp only [nth_eq] at h
    split at h
    · rename_i t e
      obtain ⟨_, q⟩ := S.mem k a _ ea e
      exact ⟨t, γ, G, Same.refl _, S, q, h⟩
    · rename_i t e
      split at h
      · exact h.elim
      · rename_i hb
        have hk : γ.nio ≤ k := by
          rcases Nat.lt_or_ge k γ.nio with z | z
          · have : Nat.blt k γ.nio = true := by simpa [Nat.blt_eq] using z
            rw [this] at hb; cases hb
          · exact z
        obtain ⟨a', G', ea', S', g, rp⟩ := S.freeze e hk
        rw [ea] at ea'; cases ea'
        exact ⟨t, _, G', g, S', rp, h⟩
    · exact h.elim
  | err D gs => exact h.elim
/-- what it is in the heap: settled, or open -/
theorem peek_ok {Q : T → Prop} (S : StR K B as γ σ G H) (rr : RR K B.ex as G r v) (h : peek r γ Q) : ∃ t, Q t ∧ (Rp K G v t ∨ ∃ a, v = .ref a ∧ MutR K G H a t) := by
  cases r with
  | val t => exact ⟨t, h, .inl rr⟩
  | ref k =>
    obtain ⟨a, ea, rfl⟩ := rr
    unfold peek at h
    simp only [nth_eq] at h
    split at h
    · rename_i t e
      obtain ⟨_, q⟩ := S.mem k a _ ea e
      exact ⟨t, h, .inl q⟩
    · rename_i t e
      obtain ⟨_, q⟩ := S.mem k a _ ea e
      exact ⟨t, h, .inr ⟨a, rfl, q⟩⟩
    · exact h.elim
  | err D gs => exact h.elim
theorem MutR.rpH {a : Addr} {t : T} (vw : Same G H) (h : MutR K G H a t) : Rp K H (.ref a) t := by
  cases t with
  | lst ts => obtain ⟨acc, q, z⟩ := h; exact .lst q (z.mono vw)
  | obj C gs => obtain ⟨dx, fs, q, z⟩ := h; exact .obj q z.1 (z.2.mono vw)
  | dk ks => obtain ⟨kvs, q, z⟩ := h; exact .dk q z.1 (z.2.mono vw)
  | dt ks => obtain ⟨kvs, q, z⟩ := h; exact .dt q z.1 (z.2.mono vw)
  | ho o => exact .ho h
  | _ => exact h.elim
theorem peek_rp {Q : T → Prop} (S : StR K B as γ σ G H) (rr : RR K B.ex as G r v) (h : peek r γ Q) : ∃ t, Q t ∧ Rp K H v t := by
  obtain ⟨t, q, z⟩ := peek_ok S rr h
  rcases z with z | ⟨a, rfl, z⟩
  · exact ⟨t, q, z.mono S.vw⟩
  · exact ⟨t, q, z.rpH S.vw⟩
end
/-- a sequence: list (true) or tuple -/
def seqT (t : T) (Q : Bool → List T → Prop) : Prop :=
  match t with
  | .lst ts => Q true ts
  | .scr ts => Q true ts
  | .tup ts => Q false ts
  | _ => False
def SqK2 (K : PySem.W.Frag) (H : Hp) (a : Addr) (xs : List V) : Bool → Prop
  | true => SqL K H a xs
  | false => SqT K H a xs
theorem SqK2.or {K : PySem.W.Frag} {H : Hp} {a : Addr} {xs : List V} : ∀ {b : Bool}, SqK2 K H a xs b → SqL K H a xs ∨ SqT K H a xs
  | true, h => .inl h
  | false, h => .inr h
section
variable {K : PySem.W.Frag} {B : Bs} {as : List Addr} {γ : Env} {σ : L2.St} {G H : Hp} {r : Rf} {v : V}
theorem peek_seq {Q : Bool → List T → Prop} (S : StR K B as γ σ G H) (rr : RR K B.ex as G r v) (h : peek r γ fun t => seqT t Q) : ∃ b ts a acc, v = .ref a ∧ SqK2 K H a acc b ∧ RpAll K G acc ts ∧ Q b ts := by
  obtain ⟨t, q, z⟩ := peek_ok S rr h
  cases t with
  | lst ts =>
    rcases z with z | ⟨a, rfl, acc, z1, z2⟩
    · cases z with | lst z1 z2 => exact ⟨true, ts, _, _, rfl, SqL.of (S.vw _ _ z1), z2, q⟩
    · exact ⟨true, ts, a, acc, rfl, SqL.of z1, z2, q⟩
  | scr ts =>
    rcases z with z | ⟨a, rfl, z1⟩
    · cases z with | scr z1 z2 => exact ⟨true, ts, _, _, rfl, SqL.same z1 S.vw, z2, q⟩
    · exact z1.elim
  | tup ts =>
    rcases z with z | ⟨a, rfl, z1⟩
    · cases z with | tup z1 z2 => exact ⟨false, ts, _, _, rfl, SqT.same z1.t S.vw, z2, q⟩
    · exact z1.elim
  | _ => exact q.elim
end
/-! ### names, constants -/
def vVar (i : Nat) : VW := fun γ Q _ => match nth γ.sl i with
  | some (some r) => Q r γ
  | some none => False
  | none => False
instance {K : PySem.W.Frag} {B : Bs} {E : L2.St → XK} {i : Nat} : VE K B E (tVar i) (vVar i) where
  run := fun {as γ σ G H Q Qv Xv} S h k _ => by
    unfold vVar at h
    rw [nth_eq] at h
    split at h
    · rename_i r e
      obtain ⟨v, e1, e2⟩ := S.sl i r e
      exact ⟨v, e1, k r γ as v G H (List.prefix_refl _) (Same.refl _) S e2 h⟩
    · exact h.elim
    · exact h.elim
def vVal (t : T) : VW := fun γ Q _ => Q (.val t) γ
def vStr (x : Str) : VW := fun γ Q _ => PyData.strOk x = true ∧ Q (.val (.str x)) γ
section
variable {K : PySem.W.Frag} {B : Bs} {E : L2.St → XK}
instance {i : Int} : VE K B E (tC (.int i)) (vVal (.int i)) := ⟨fun {as γ σ G H Q Qv Xv} S h k _ => kval k S (.int i) h⟩
instance {b : Bool} : VE K B E (tC (.bl b)) (vVal (.bl b)) := ⟨fun {as γ σ G H Q Qv Xv} S h k _ => kval k S (.bl b) h⟩
instance : VE K B E (tC .non) (vVal .non) := ⟨fun {as γ σ G H Q Qv Xv} S h k _ => kval k S .non h⟩
instance {n : String} : VE K B E (tC (.ty n)) (vVal (.ty n)) := ⟨fun {as γ σ G H Q Qv Xv} S h k _ => kval k S (.ty n) h⟩
instance {a : Addr} : VE K B E (tC (.ref a)) (vVal (.cls a)) := ⟨fun {as γ σ G H Q Qv Xv} S h k _ => kval k S (.cls a) h⟩
instance {x : Str} : VE K B E (tC (.str x)) (vStr x) := ⟨fun {as γ σ G H Q Qv Xv} S h k _ => kval k S (.str x h.1) h.2⟩
/-! ### operators by values -/
def vOp (wr : Rf → Rf → VW) (wa wb : VW) : VW := fun γ Q X => wa γ (fun r1 γ1 => wb γ1 (fun r2 γ2 => wr r1 r2 γ2 Q X) X) X
instance {r : R2} {wr : Rf → Rf → VW} {ta tb : TE} {wa wb : VW} [ha : VE K B E ta wa] [hb : VE K B E tb wb] [hr : V2 K B E r wr] : VE K B E (tOp r ta tb) (vOp wr wa wb) where
  run := fun {as γ σ G H Q Qv Xv} S h k kx => by
    refine ha.run S h (fun r1 γ1 as1 v1 G1 H1 p1 g1 S1 rr1 q1 => ?_) kx
    refine hb.run S1 q1 (fun r2 γ2 as2 v2 G2 H2 p2 g2 S2 rr2 q2 => ?_) (kx.mono p1 g1)
    exact hr.run S2 (RR.mono rr1 p2 g2) rr2 q2 ((k.mono p1 g1).mono p2 g2) ((kx.mono p1 g1).mono p2 g2)
def vUn (wr : Rf → VW) (wa : VW) : VW := fun γ Q X => wa γ (fun r1 γ1 => wr r1 γ1 Q X) X
instance {r : V → Hp → VK → Prop} {wr : Rf → VW} {ta : TE} {wa : VW} [ha : VE K B E ta wa] [hr : V1 K B E r wr] : VE K B E (tUn r ta) (vUn wr wa) where
  run := fun {as γ σ G H Q Qv Xv} S h k kx => by
    refine ha.run S h (fun r1 γ1 as1 v1 G1 H1 p1 g1 S1 rr1 q1 => ?_) kx
    exact hr.run S1 rr1 q1 (k.mono p1 g1) (kx.mono p1 g1)
/-- two values, looked at -/
def peek2 (f : T → T → RQ → Env → Prop) : Rf → Rf → VW := fun r1 r2 γ Q _ => peek r1 γ fun x => peek r2 γ fun y => f x y Q γ
def int2 (C : Int → Int → Prop) (f : Int → Int → T) : T → T → RQ → Env → Prop := fun x y Q γ => match x, y with
  | .int i, .int j => C i j ∧ Q (.val (f i j)) γ
  | _, _ => False
def int20 (f : Int → Int → T) : T → T → RQ → Env → Prop := fun x y Q γ => match x, y with
  | .int i, .int j => Q (.val (f i j)) γ
  | _, _ => False
section
variable {as : List Addr} {γ : Env} {σ : L2.St} {G H : Hp} {v : V} {rx : Rf}
theorem peek_int {Q : T → Prop} (S : StR K B as γ σ G H) (rr : RR K B.ex as G rx v) (h : peek rx γ Q) : ∃ t, Q t ∧ ∀ i, t = .int i → v = .int i := by
  obtain ⟨t, q, z⟩ := peek_rp S rr h
  exact ⟨t, q, fun i e => by subst e; cases z; rfl⟩
end
theorem v2_int {C : Int → Int → Prop} {f : Int → Int → T} {g : Int → Int → V} (hg : ∀ (G : Hp) (i j : Int), Rp K G (g i j) (f i j)) : V2 K B E (rI C g) (peek2 (int2 C f)) where
  run := fun {as γ σ G H x y rx ry Q Qv Xv} S r1 r2 h k _ => by
    obtain ⟨t1, h, e1⟩ := peek_int S r1 h
    obtain ⟨t2, h, e2⟩ := peek_int S r2 h
    unfold int2 at h
    split at h
    · exact ⟨_, _, e1 _ rfl, e2 _ rfl, h.1, kval k S (hg _ _ _) h.2⟩
    · exact h.elim
theorem v2_int0 {f : Int → Int → T} {g : Int → Int → V} (hg : ∀ (G : Hp) (i j : Int), Rp K G (g i j) (f i j)) : V2 K B E (rI0 g) (peek2 (int20 f)) where
  run := fun {as γ σ G H x y rx ry Q Qv Xv} S r1 r2 h k _ => by
    obtain ⟨t1, h, e1⟩ := peek_int S r1 h
    obtain ⟨t2, h, e2⟩ := peek_int S r2 h
    unfold int20 at h
    split at h
    · exact ⟨_, _, e1 _ rfl, e2 _ rfl, kval k S (hg _ _ _) h⟩
    · exact h.elim
instance {C : Int → Int → Prop} {f : Int → Int → Int} : V2 K B E (rI C fun i j => .int (f i j)) (peek2 (int2 C fun i j => .int (f i j))) := v2_int fun _ _ _ => .int _
instance {f : Int → Int → Int} : V2 K B E (rI0 fun i j => .int (f i j)) (peek2 (int20 fun i j => .int (f i j))) := v2_int0 fun _ _ _ => .int _
instance {f : Int → Int → Bool} : V2 K B E (rI0 fun i j => .bl (f i j)) (peek2 (int20 fun i j => .bl (f i j))) := v2_int0 fun _ _ _ => .bl _
def int1 (f : Int → T) : Rf → VW := fun r γ Q _ => peek r γ fun x => match x with
  | .int i => Q (.val (f i)) γ
  | _ => False
instance {f : Int → Int} : V1 K B E (rU fun i => .int (f i)) (int1 fun i => .int (f i)) where
  run := fun {as γ σ G H x rx Q Qv Xv} S r1 h k _ => by
    obtain ⟨t1, h, e1⟩ := peek_int S r1 h
    split at h
    · exact ⟨_, e1 _ rfl, kval k S (.int _) h⟩
    · exact h.elim
end
end VL
set_option Elab.async false
set_option linter.all false
set_option maxRecDepth 100000
set_option maxHeartbeats 4000000
/-! readings over values: data, sequences, tests, built-in calls -/
namespace VL
open PySem PySem.Spec PyProof.Rows L2 XR
/-! ### data -/
mutual
def toD : T → PyData
  | .bl b => .bool b
  | .int i => .int i
  | .str s => .str s
  | .lst ts => .list (toDs ts)
  | .scr ts => .list (toDs ts)
  | .tup ts => .tuple (toDs ts)
  | .non => .none
  | .ty _ => .none
  | .cls _ => .none
  | .rng _ _ => .none
  | .obj _ _ => .none
  | .dk _ => .none
  | .dt _ => .none
  | .ho _ => .none
def toDs : List T → List PyData
  | [] => []
  | t :: r => toD t :: toDs r
end
mutual
def dataT : T → Bool
  | .bl _ => true
  | .int _ => true
  | .str _ => true
  | .lst ts => dataTs ts
  | .scr ts => dataTs ts
  | .tup ts => dataTs ts
  | .non => true
  | .ty _ => false
  | .cls _ => false
  | .rng _ _ => false
  | .obj _ _ => false
  | .dk _ => false
  | .dt _ => false
  | .ho _ => false
def dataTs : List T → Bool
  | [] => true
  | t :: r => dataT t && dataTs r
end
mutual
def depT : T → Nat
  | .lst ts => depTs ts + 1
  | .scr ts => depTs ts + 1
  | .tup ts => depTs ts + 1
  | .bl _ => 0
  | .int _ => 0
  | .str _ => 0
  | .non => 0
  | .ty _ => 0
  | .cls _ => 0
  | .rng _ _ => 0
  | .obj _ _ => 0
  | .dk _ => 0
  | .dt _ => 0
  | .ho _ => 0
def depTs : List T → Nat
  | [] => 0
  | t :: r => max (depT t) (depTs r)
end
/-- == of data -/
def eqT (x y : T) : Bool := PyData.eqv (toD x) (toD y)
/-- data that == may look at -/
def okD (t : T) : Bool := dataT t && decide (depT t ≤ 64)
section
variable {K : PySem.W.Frag} {H : Hp}
mutual
theorem Rp.dp : ∀ {t : T} {v : V}, Rp K H v t → dataT t = true → Dp K H v (toD t)
  | _, _, .non, _ => .non
  | _, _, .bl b, _ => .bl b
  | _, _, .int i, _ => .int i
  | _, _, .str s _, _ => .str s
  | _, _, .lst s a, h => .lst (SqL.of s) (RpAll.dp a h)
  | _, _, .scr s a, h => .lst s (RpAll.dp a h)
  | _, _, .tup s a, h => .tup s.t (RpAll.dp a h)
  | _, _, .ty _, h => by cases h
  | _, _, .cls _, h => by cases h
  | _, _, .rng _, h => by cases h
  | _, _, .obj _ _ _, h => by cases h
  | _, _, .dk _ _ _, h => by cases h
  | _, _, .dt _ _ _, h => by cases h
  | _, _, .ho _, h => by cases h
theorem RpAll.dp : ∀ {ts : List T} {vs : List V}, RpAll K H vs ts → dataTs ts = true → DpAll K H vs (toDs ts)
  | _, _, .nil, _ => .nil
  | _, _, .cons a b, h => by
    have h2 := Bool.and_eq_true_iff.mp h
    exact .cons (Rp.dp a h2.1) (RpAll.dp b h2.2)
end
mutual
theorem Rp.lay : ∀ {t : T} {v : V}, Rp K H v t → dataT t = true → (toD t).canLay0 = true
  | _, _, .non, _ => rfl
  | _, _, .bl b, _ => rfl
  | _, _, .int i, _ => rfl
  | _, _, .str s h, _ => h
  | _, _, .lst s a, h => RpAll.lay a h
  | _, _, .scr s a, h => RpAll.lay a h
  | _, _, .tup s a, h => RpAll.lay a h
  | _, _, .ty _, h => by cases h
  | _, _, .cls _, h => by cases h
  | _, _, .rng _, h => by cases h
  | _, _, .obj _ _ _, h => by cases h
  | _, _, .dk _ _ _, h => by cases h
  | _, _, .dt _ _ _, h => by cases h
  | _, _, .ho _, h => by cases h
theorem RpAll.lay : ∀ {ts : List T} {vs : List V}, RpAll K H vs ts → dataTs ts = true → PyData.canLayAll0 (toDs ts) = true
  | _, _, .nil, _ => rfl
  | _, _, .cons a b, h => by
    have h2 := Bool.and_eq_true_iff.mp h
    show (PyData.canLay0 _ && PyData.canLayAll0 _) = true
    rw [Rp.lay a h2.1, RpAll.lay b h2.2]
    rfl
end
mutual
theorem dep_eq : ∀ (t : T), (toD t).depth = depT t
  | .lst ts => by show PyData.depthAll _ + 1 = depTs ts + 1; rw [deps_eq ts]
  | .scr ts => by show PyData.depthAll _ + 1 = depTs ts + 1; rw [deps_eq ts]
  | .tup ts => by show PyData.depthAll _ + 1 = depTs ts + 1; rw [deps_eq ts]
  | .bl _ => rfl
  | .int _ => rfl
  | .str _ => rfl
  | .non => rfl
  | .ty _ => rfl
  | .cls _ => rfl
  | .rng _ _ => rfl
  | .obj _ _ => rfl
  | .dk _ => rfl
  | .dt _ => rfl
  | .ho _ => rfl
theorem deps_eq : ∀ (ts : List T), PyData.depthAll (toDs ts) = depTs ts
  | [] => rfl
  | t :: r => by show max _ _ = max _ _; rw [dep_eq t, deps_eq r]
end
theorem Rp.shaped {t : T} {v : V} (h : Rp K H v t) (o : okD t = true) : SeqAt.shaped (toD t) = true := by
  have h2 := Bool.and_eq_true_iff.mp o
  show ((toD t).canLay0 && decide ((toD t).depth ≤ 64)) = true
  rw [h.lay h2.1, dep_eq]
  exact h2.2
theorem okD_data {t : T} (o : okD t = true) : dataT t = true := (Bool.and_eq_true_iff.mp o).1
end
def nb : Bool → Bool → Bool
  | true, b => !b
  | false, b => b
/-- the answer of == -/
def eqQ (neg : Bool) (x y : T) (Q : Bool → Prop) : Prop :=
  match x, y with
  | .int i, .int j => Q (nb neg (decide (i = j)))
  | .str i, .str j => Q (nb neg (decide (i = j)))
  | .bl i, .bl j => Q (nb neg (decide (i = j)))
  | x, y => okD x = true ∧ okD y = true ∧ Q (nb neg (eqT x y))
theorem eqQ_ok {neg : Bool} {x y : T} {Q : Bool → Prop} (h : eqQ neg x y Q) : okD x = true ∧ okD y = true ∧ Q (nb neg (eqT x y)) := by
  have e1 : ∀ i j : Int, eqT (.int i) (.int j) = decide (i = j) := fun i j => by
    show (i == j) = _
    rw [Bool.eq_iff_iff]; simp
  have e2 : ∀ i j : Str, eqT (.str i) (.str j) = decide (i = j) := fun i j => by
    show (i == j) = _
    rw [Bool.eq_iff_iff]; simp
  have e3 : ∀ i j : Bool, eqT (.bl i) (.bl j) = decide (i = j) := fun i j => by
    show (i == j) = _
    rw [Bool.eq_iff_iff]; simp
  cases x <;> cases y <;> first
    | exact h
    | exact ⟨rfl, rfl, by rw [e1]; exact h⟩
    | exact ⟨rfl, rfl, by rw [e2]; exact h⟩
    | exact ⟨rfl, rfl, by rw [e3]; exact h⟩
/-- .. == [] -/
def eqQN (neg : Bool) (x y : T) (Q : Bool → Prop) : Prop :=
  match y with
  | .lst [] => match x with
    | .lst ts => okD (.lst ts) = true ∧ Q (nb neg ts.isEmpty)
    | .scr ts => okD (.scr ts) = true ∧ Q (nb neg ts.isEmpty)
    | x => okD x = true ∧ Q (nb neg (eqT x (.lst [])))
  | y => okD x = true ∧ okD y = true ∧ Q (nb neg (eqT x y))
theorem eqQN_ok {neg : Bool} {x y : T} {Q : Bool → Prop} (h : eqQN neg x y Q) : okD x = true ∧ okD y = true ∧ Q (nb neg (eqT x y)) := by
  have e4 : ∀ ts : List T, eqT (.lst ts) (.lst []) = ts.isEmpty := fun ts => by cases ts <;> rfl
  have e5 : ∀ ts : List T, eqT (.scr ts) (.lst []) = ts.isEmpty := fun ts => by cases ts <;> rfl
  unfold eqQN at h
  split at h
  · split at h
    · exact ⟨h.1, rfl, by rw [e4]; exact h.2⟩
    · exact ⟨h.1, rfl, by rw [e5]; exact h.2⟩
    · exact ⟨h.1, rfl, h.2⟩
  · exact h
def vEqN (neg : Bool) : Rf → Rf → VW := peek2 fun x y Q γ => eqQN neg x y fun b => Q (.val (.bl b)) γ
def vEq (neg : Bool) : Rf → Rf → VW := peek2 fun x y Q γ => eqQ neg x y fun b => Q (.val (.bl b)) γ
section
variable {K : PySem.W.Frag} {B : Bs} {E : L2.St → XK}
section
variable {as : List Addr} {γ : Env} {σ : L2.St} {G H : Hp} {r1 r2 : Rf} {x y : V}
theorem peek2_rp {f : T → T → RQ → Env → Prop} {Q : RQ} {X : XQ} (S : StR K B as γ σ G H) (h1 : RR K B.ex as G r1 x) (h2 : RR K B.ex as G r2 y) (h : peek2 f r1 r2 γ Q X) : ∃ t u, Rp K H x t ∧ Rp K H y u ∧ f t u Q γ := by
  obtain ⟨t, h, e1⟩ := peek_rp S h1 h
  obtain ⟨u, h, e2⟩ := peek_rp S h2 h
  exact ⟨t, u, e1, e2, h⟩
end
instance : V2 K B E (rEqD K) (vEq false) where
  run := fun {as γ σ G H x y rx ry Q Qv Xv} S r1 r2 h k _ => by
    obtain ⟨t, u, e1, e2, h⟩ := peek2_rp S r1 r2 h
    obtain ⟨o1, o2, q⟩ := eqQ_ok h
    exact ⟨_, _, e1.dp (okD_data o1), e2.dp (okD_data o2), e1.shaped o1, e2.shaped o2, kval k S (.bl _) q⟩
instance : V2 K B E (rNeD K) (vEq true) where
  run := fun {as γ σ G H x y rx ry Q Qv Xv} S r1 r2 h k _ => by
    obtain ⟨t, u, e1, e2, h⟩ := peek2_rp S r1 r2 h
    obtain ⟨o1, o2, q⟩ := eqQ_ok h
    exact ⟨_, _, e1.dp (okD_data o1), e2.dp (okD_data o2), e1.shaped o1, e2.shaped o2, kval k S (.bl _) q⟩
theorem v2_eqN : V2 K B E (rEqD K) (vEqN false) where
  run := fun {as γ σ G H x y rx ry Q Qv Xv} S r1 r2 h k _ => by
    obtain ⟨t, u, e1, e2, h⟩ := peek2_rp S r1 r2 h
    obtain ⟨o1, o2, q⟩ := eqQN_ok h
    exact ⟨_, _, e1.dp (okD_data o1), e2.dp (okD_data o2), e1.shaped o1, e2.shaped o2, kval k S (.bl _) q⟩
theorem v2_neN : V2 K B E (rNeD K) (vEqN true) where
  run := fun {as γ σ G H x y rx ry Q Qv Xv} S r1 r2 h k _ => by
    obtain ⟨t, u, e1, e2, h⟩ := peek2_rp S r1 r2 h
    obtain ⟨o1, o2, q⟩ := eqQN_ok h
    exact ⟨_, _, e1.dp (okD_data o1), e2.dp (okD_data o2), e1.shaped o1, e2.shaped o2, kval k S (.bl _) q⟩
end
/-! ### x in s: items that are data; one text in another; an int in a range -/
def rInU (K : PySem.W.Frag) (neg : Bool) : R2 := fun x y H Q => (∃ d ds, Dp K H x d ∧ (Dp K H y (.list ds) ∨ Dp K H y (.tuple ds)) ∧ SeqAt.shaped d = true ∧ SeqAt.shaped (.list ds) = true ∧ Q (.bl (nb neg (ds.any fun z => PyData.eqv z d))) H) ∨
  (∃ i j, x = .str i ∧ y = .str j ∧ Q (.bl (nb neg (!(Builtin.Str.occurrences j i 0 j.length 1).isEmpty))) H)
section
variable {X : Cx}
theorem op_inU (hu : X.A.units + 65 < cLine) : OpR X (compareOp .In) (rInU X.K false) := by
  intro pins s σ H x y v u Q I rx ry h
  rcases h with ⟨d, ds, hd, he, sd, se, q⟩ | ⟨i, j, e1, e2, q⟩
  · obtain ⟨as, r1⟩ := Dp.reads I d x v hd rx
    rcases he with he | he
    · obtain ⟨bs, r2⟩ := Dp.reads I (.list ds) y u he ry
      exact SeqAt.in_list_reads r2 r1 (SeqAt.canLay_of_shaped se) (SeqAt.canLay_of_shaped sd) (room_in_shaped sd hu) ⟨.bl _, H, I, rfl, q⟩
    · obtain ⟨bs, r2⟩ := Dp.reads I (.tuple ds) y u he ry
      exact SeqAt.in_tuple_reads r2 r1 (SeqAt.canLay_of_shaped se) (SeqAt.canLay_of_shaped sd) (room_in_shaped sd hu) ⟨.bl _, H, I, rfl, q⟩
  · exact op_in_str pins s σ H x y v u Q I rx ry ⟨i, j, e1, e2, q⟩
theorem op_notInU (hu : X.A.units + 65 < cLine) : OpR X (compareOp .NotIn) (rInU X.K true) := by
  intro pins s σ H x y v u Q I rx ry h
  rcases h with ⟨d, ds, hd, he, sd, se, q⟩ | ⟨i, j, e1, e2, q⟩
  · obtain ⟨as, r1⟩ := Dp.reads I d x v hd rx
    rcases he with he | he
    · obtain ⟨bs, r2⟩ := Dp.reads I (.list ds) y u he ry
      exact SeqAt.notIn_list_reads r2 r1 (SeqAt.canLay_of_shaped se) (SeqAt.canLay_of_shaped sd) (room_in_shaped sd hu) ⟨.bl _, H, I, rfl, q⟩
    · obtain ⟨bs, r2⟩ := Dp.reads I (.tuple ds) y u he ry
      exact SeqAt.notIn_tuple_reads r2 r1 (SeqAt.canLay_of_shaped se) (SeqAt.canLay_of_shaped sd) (room_in_shaped sd hu) ⟨.bl _, H, I, rfl, q⟩
  · subst e1 e2
    obtain ⟨t, rfl⟩ := rx
    obtain ⟨t', rfl⟩ := ry
    exact PyProof.Rows.notIn_str (fin_bl I q rfl)
end
def anyT (x : T) (ts : List T) : Bool := ts.any fun z => eqT z x
def inQ (neg : Bool) (x y : T) (Q : Bool → Prop) : Prop :=
  match y with
  | .str j => match x with
    | .str i => Q (nb neg (!(Builtin.Str.occurrences j i 0 j.length 1).isEmpty))
    | _ => False
  | .lst ts => okD x = true ∧ okD (.lst ts) = true ∧ Q (nb neg (anyT x ts))
  | .tup ts => okD x = true ∧ okD (.lst ts) = true ∧ Q (nb neg (anyT x ts))
  | .scr ts => okD x = true ∧ okD (.lst ts) = true ∧ Q (nb neg (anyT x ts))
  | _ => False
def vIn (neg : Bool) : Rf → Rf → VW := peek2 fun x y Q γ => inQ neg x y fun b => Q (.val (.bl b)) γ
theorem toDs_map : ∀ ts : List T, toDs ts = ts.map toD
  | [] => rfl
  | t :: r => congrArg _ (toDs_map r)
theorem any_toDs (x : T) (ts : List T) : ((toDs ts).any fun z => PyData.eqv z (toD x)) = anyT x ts := by
  rw [toDs_map, List.any_map]; rfl
section
variable {K : PySem.W.Frag} {B : Bs} {E : L2.St → XK}
theorem v2_in {neg : Bool} : V2 K B E (rInU K neg) (vIn neg) where
  run := fun {as γ σ G H x y rx ry Q Qv Xv} S r1 r2 h k _ => by
    obtain ⟨t, u, e1, e2, h⟩ := peek2_rp S r1 r2 h
    unfold inQ at h
    split at h
    · split at h
      · cases e1
        cases e2
        exact .inr ⟨_, _, rfl, rfl, kval k S (.bl _) h⟩
      · exact h.elim
    · obtain ⟨o1, o2, q⟩ := h
      refine .inl ⟨_, _, e1.dp (okD_data o1), .inl (e2.dp (okD_data o2)), e1.shaped o1, e2.shaped o2, ?_⟩
      rw [any_toDs]
      exact kval k S (.bl _) q
    · rename_i ts
      obtain ⟨o1, o2, q⟩ := h
      have o3 : okD (.tup ts) = true := o2
      refine .inl ⟨_, _, e1.dp (okD_data o1), .inr (e2.dp (okD_data o3)), e1.shaped o1, e2.shaped o3, ?_⟩
      rw [any_toDs]
      exact kval k S (.bl _) q
    · rename_i ts
      obtain ⟨o1, o2, q⟩ := h
      have o3 : okD (.scr ts) = true := o2
      refine .inl ⟨_, _, e1.dp (okD_data o1), .inl (e2.dp (okD_data o3)), e1.shaped o1, e2.shaped o3, ?_⟩
      rw [any_toDs]
      exact kval k S (.bl _) q
    · exact h.elim
instance : V2 K B E (rInU K false) (vIn false) := v2_in
instance : V2 K B E (rInU K true) (vIn true) := v2_in
/-! ### an item, the length, truth -/
def ixQ (x y : T) (Q : T → Prop) : Prop :=
  match y with
  | .int n => match x with
    | .lst ts => isS (atL ts n) Q
    | .tup ts => isS (atL ts n) Q
    | .scr ts => isS (atL ts n) Q
    | .str z => z.length ≤ sizeLine ∧ isS (atL z.cps.toList n) fun c => Q (.str ⟨#[c]⟩)
    | _ => False
  | _ => False
def vIx : Rf → Rf → VW := peek2 fun x y Q γ => ixQ x y fun t => Q (.val t) γ
theorem RpAll.atI {G : Hp} {vs : List V} {ts : List T} {n : Int} {t : T} (h : RpAll K G vs ts) (e : L2.atI ts n = some t) : ∃ v, L2.atI vs n = some v ∧ Rp K G v t := by
  unfold L2.atI at e ⊢
  rw [h.length]
  cases hi : ixN ts.length n with
  | none => rw [hi] at e; cases e
  | some j =>
    rw [hi] at e
    exact RpAll.get' h e
theorem strOk_at {z : Str} {n : Int} {c : Nat} (h : PyData.strOk z = true) (e : L2.atI z.cps.toList n = some c) : PyData.strOk (⟨#[c]⟩ : Str) = true := by
  have hc : c ∈ z.cps.toList := by
    unfold L2.atI at e
    cases hi : ixN z.cps.toList.length n with
    | none => rw [hi] at e; cases e
    | some j => rw [hi] at e; exact List.mem_of_getElem? e
  have h : z.cps.all (· < 0x110000) = true := h
  rw [Array.all_eq_true_iff_forall_mem] at h
  have := h c (by simpa using hc)
  show (#[c] : Array Nat).all (· < 0x110000) = true
  simpa using this
instance : V2 K B E (rIx K) vIx where
  run := fun {as γ σ G H x y rx ry Q Qv Xv} S r1 r2 h k _ => by
    obtain ⟨t, h, z⟩ := peek_ok S r1 h
    obtain ⟨u, h, e2⟩ := peek_rp S r2 h
    unfold ixQ at h
    split at h
    · cases e2
      split at h
      · obtain ⟨t, e, q⟩ := isS_e h
        rw [atL_eq] at e
        rcases z with z | ⟨a, rfl, acc, z1, z2⟩
        · cases z with | lst z1 z2 =>
          obtain ⟨v, ev, rv⟩ := z2.atI e
          exact .inl ⟨_, _, _, v, rfl, rfl, SqL.of (S.vw _ _ z1), ev, kval k S rv q⟩
        · obtain ⟨v, ev, rv⟩ := z2.atI e
          exact .inl ⟨_, _, _, v, rfl, rfl, SqL.of z1, ev, kval k S rv q⟩
      · obtain ⟨t, e, q⟩ := isS_e h
        rw [atL_eq] at e
        rcases z with z | ⟨a, rfl, z1⟩
        · cases z with | tup z1 z2 =>
          obtain ⟨v, ev, rv⟩ := z2.atI e
          exact .inr (.inl ⟨_, _, _, v, rfl, rfl, SqT.same z1.t S.vw, ev, kval k S rv q⟩)
        · exact z1.elim
      · obtain ⟨t, e, q⟩ := isS_e h
        rw [atL_eq] at e
        rcases z with z | ⟨a, rfl, z1⟩
        · cases z with | scr z1 z2 =>
          obtain ⟨v, ev, rv⟩ := z2.atI e
          exact .inl ⟨_, _, _, v, rfl, rfl, SqL.same z1 S.vw, ev, kval k S rv q⟩
        · exact z1.elim
      · obtain ⟨hz, h⟩ := h
        obtain ⟨c, e, q⟩ := isS_e h
        rw [atL_eq] at e
        rcases z with z | ⟨a, rfl, z1⟩
        · cases z with | str _ ok =>
          exact .inr (.inr ⟨_, _, c, rfl, rfl, hz, e, kval k S (.str _ (strOk_at ok e)) q⟩)
        · exact z1.elim
      · exact h.elim
    · exact h.elim
end
/-- the number of items -/
def lenQ (x : T) (Q : Int → Prop) : Prop :=
  match x with
  | .lst ts => Q (ts.length : Int)
  | .tup ts => Q (ts.length : Int)
  | .scr ts => Q (ts.length : Int)
  | .str z => z.length ≤ sizeLine ∧ Q (z.length : Int)
  | _ => False
/-- one argument, looked at -/
def look1 (f : T → RQ → Env → Prop) : List Rf → VW := fun rs γ Q _ => match rs with
  | [r] => peek r γ fun t => f t Q γ
  | _ => False
def look2 (f : T → T → RQ → Env → Prop) : List Rf → VW := fun rs γ Q X => match rs with
  | [r, r2] => peek2 f r r2 γ Q X
  | _ => False
section
variable {K : PySem.W.Frag} {B : Bs} {E : L2.St → XK}
section
variable {as : List Addr} {γ : Env} {σ : L2.St} {G H : Hp} {rs : List Rf} {vs : List V}
theorem look1_ok {f : T → RQ → Env → Prop} {Q : RQ} {X : XQ} (S : StR K B as γ σ G H) (h1 : RRs K B.ex as G rs vs) (h : look1 f rs γ Q X) : ∃ v t, vs = [v] ∧ (Rp K G v t ∨ ∃ a, v = .ref a ∧ MutR K G H a t) ∧ f t Q γ := by
  unfold look1 at h
  split at h
  · cases h1 with | cons a b =>
    cases b
    obtain ⟨t, q, z⟩ := peek_ok S a h
    exact ⟨_, t, rfl, z, q⟩
  · exact h.elim
theorem rp_any {v : V} {t : T} (S : StR K B as γ σ G H) (z : Rp K G v t ∨ ∃ a, v = .ref a ∧ MutR K G H a t) : Rp K H v t := by
  rcases z with z | ⟨a, rfl, z⟩
  · exact z.mono S.vw
  · exact z.rpH S.vw
theorem look2_ok {f : T → T → RQ → Env → Prop} {Q : RQ} {X : XQ} (S : StR K B as γ σ G H) (h1 : RRs K B.ex as G rs vs) (h : look2 f rs γ Q X) : ∃ v u t s, vs = [v, u] ∧ (Rp K G v t ∨ ∃ a, v = .ref a ∧ MutR K G H a t) ∧ (Rp K G u s ∨ ∃ a, u = .ref a ∧ MutR K G H a s) ∧ f t s Q γ := by
  unfold look2 at h
  split at h
  · cases h1 with | cons a b =>
    cases b with | cons b c =>
    cases c
    obtain ⟨t, h, z⟩ := peek_ok S a h
    obtain ⟨s, h, z2⟩ := peek_ok S b h
    exact ⟨_, _, t, s, rfl, z, z2, h⟩
  · exact h.elim
end
def rLenU (K : PySem.W.Frag) : List V → Hp → VK → Prop := fun xs H Q => ∃ x n, xs = [x] ∧ LenV K x H n ∧ Q (.int n) H
theorem call_lenU {X : Cx} : CallR X (.builtin "len") (rLenU X.K) := call_len
def vLen : List Rf → VW := look1 fun t Q γ => lenQ t fun n => Q (.val (.int n)) γ
instance : VC K B E (rLenU K) vLen where
  run := fun {as γ σ G H vs rs Q Qv Xv} S r1 h k _ => by
    obtain ⟨v, t, rfl, z, h⟩ := look1_ok S r1 h
    have z := rp_any S z
    unfold lenQ at h
    split at h
    · cases z with | lst z1 z2 => exact ⟨_, _, rfl, .inl ⟨_, SqL.of z1, rfl⟩, by rw [z2.length]; exact kval k S (.int _) h⟩
    · cases z with | tup z1 z2 => exact ⟨_, _, rfl, .inr ⟨_, z1.t, rfl⟩, by rw [z2.length]; exact kval k S (.int _) h⟩
    · cases z with | scr z1 z2 => exact ⟨_, _, rfl, .inl ⟨_, z1, rfl⟩, by rw [z2.length]; exact kval k S (.int _) h⟩
    · cases z with | str _ ok => exact ⟨_, _, rfl, ⟨h.1, rfl⟩, kval k S (.int _) h.2⟩
    · exact h.elim
/-! ### other built-in calls -/
def rInt1 : List V → Hp → VK → Prop := fun xs H Q => (∃ i, xs = [.int i] ∧ Q (.int i) H) ∨ ∃ k, xs = [.bl k] ∧ Q (.int (if k then 1 else 0)) H
theorem call_intU {X : Cx} : CallR X (.type "int") rInt1 := call_int1
def vInt : List Rf → VW := look1 fun t Q γ => match t with
  | .int i => Q (.val (.int i)) γ
  | .bl b => Q (.val (.int (if b then 1 else 0))) γ
  | _ => False
instance : VC K B E rInt1 vInt where
  run := fun {as γ σ G H vs rs Q Qv Xv} S r1 h k _ => by
    obtain ⟨v, t, rfl, z, h⟩ := look1_ok S r1 h
    have z := rp_any S z
    split at h
    · cases z; exact .inl ⟨_, rfl, kval k S (.int _) h⟩
    · cases z; exact .inr ⟨_, rfl, kval k S (.int _) h⟩
    · exact h.elim
def rAbs : List V → Hp → VK → Prop := fun xs H Q => ∃ i, xs = [.int i] ∧ Q (.int (if i < 0 then -i else i)) H
theorem call_absU {X : Cx} : CallR X (.builtin "abs") rAbs := call_abs
def vAbs : List Rf → VW := look1 fun t Q γ => match t with
  | .int i => Q (.val (.int (if i < 0 then -i else i))) γ
  | _ => False
instance : VC K B E rAbs vAbs where
  run := fun {as γ σ G H vs rs Q Qv Xv} S r1 h k _ => by
    obtain ⟨v, t, rfl, z, h⟩ := look1_ok S r1 h
    have z := rp_any S z
    split at h
    · cases z; exact ⟨_, rfl, kval k S (.int _) h⟩
    · exact h.elim
def rMx : List V → Hp → VK → Prop := fun xs H Q => ∃ i j, xs = [.int i, .int j] ∧ Q (.int (if j > i then j else i)) H
def rMn : List V → Hp → VK → Prop := fun xs H Q => ∃ i j, xs = [.int i, .int j] ∧ Q (.int (if j < i then j else i)) H
theorem call_max2U {X : Cx} (hc : X.calm = true) : CallR X (.builtin "max") rMx := call_max2 hc
theorem call_min2U {X : Cx} (hc : X.calm = true) : CallR X (.builtin "min") rMn := call_min2 hc
def ints2 (f : Int → Int → Int) : List Rf → VW := look2 fun x y Q γ => match x, y with
  | .int i, .int j => Q (.val (.int (f i j))) γ
  | _, _ => False
instance : VC K B E rMx (ints2 fun i j => max i j) where
  run := fun {as γ σ G H vs rs Q Qv Xv} S r1 h k _ => by
    obtain ⟨v, u, t, s, rfl, z, z2, h⟩ := look2_ok S r1 h
    have z := rp_any S z
    have z2 := rp_any S z2
    split at h
    · cases z; cases z2
      refine ⟨_, _, rfl, ?_⟩
      rw [max_if, Int.max_comm]
      exact kval k S (.int _) (by rw [Int.max_comm]; exact h)
    · exact h.elim
instance : VC K B E rMn (ints2 fun i j => min i j) where
  run := fun {as γ σ G H vs rs Q Qv Xv} S r1 h k _ => by
    obtain ⟨v, u, t, s, rfl, z, z2, h⟩ := look2_ok S r1 h
    have z := rp_any S z
    have z2 := rp_any S z2
    split at h
    · cases z; cases z2
      refine ⟨_, _, rfl, ?_⟩
      rw [min_if, Int.min_comm]
      exact kval k S (.int _) (by rw [Int.min_comm]; exact h)
    · exact h.elim
def rGcdU : List V → Hp → VK → Prop := rGcd
instance : VC K B E rGcd (ints2 fun a b => ((Nat.gcd a.natAbs b.natAbs : Nat) : Int)) where
  run := fun {as γ σ G H vs rs Q Qv Xv} S r1 h k _ => by
    obtain ⟨v, u, t, s, rfl, z, z2, h⟩ := look2_ok S r1 h
    have z := rp_any S z
    have z2 := rp_any S z2
    split at h
    · cases z; cases z2
      exact ⟨_, _, rfl, kval k S (.int _) h⟩
    · exact h.elim
/-- str of an int -/
def rStrI : List V → Hp → VK → Prop := fun xs H Q => ∃ i, xs = [.int i] ∧ i.natAbs.log2 < 1920 ∧ Q (.str (toString i)) H
theorem call_strU {X : Cx} : CallR X (.type "str") rStrI := call_str_int
end
end VL
set_option Elab.async false
set_option linter.all false
set_option maxRecDepth 100000
set_option maxHeartbeats 4000000
/-! readings over values: displays, conversions, slices, texts, tests -/
namespace VL
open PySem PySem.Spec PyProof.Rows L2 XR
section
variable {K : PySem.W.Frag} {B : Bs} {E : L2.St → XK}
section
variable {as : List Addr} {γ : Env} {σ : L2.St} {G H : Hp} {Q : VK} {Qv : RQ} {p : Addr} {ts : List T} {vs : List V}
/-- a new list is given -/
theorem knew (k : KontP K B as σ G (rR K B) Q Qv) (S : StR K B as γ σ G H) (rp : RpAll K G vs ts) (h : Qv (.ref γ.mem.length) (γ.push (.mu (.lst ts)))) (hp : H p = none) : Q (.ref p) (L2.upd H p (.lst vs)) := by
  have S' := S.alloc (t := .lst ts) (o := .lst vs) hp ⟨vs, upd_same, rp⟩
  refine k (.ref γ.mem.length) _ _ _ G _ (List.prefix_append _ _) (Same.refl _) S' ⟨p, ?_, rfl⟩ h
  rw [← S.mlen, List.getElem?_append_right (Nat.le_refl _), Nat.sub_self]
  rfl
/-- a new tuple is given -/
theorem ktup (k : KontP K B as σ G (rR K B) Q Qv) (S : StR K B as γ σ G H) (rp : RpAll K G vs ts) (h : Qv (.val (.tup ts)) γ) (hp : H p = none) : Q (.ref p) (L2.upd H p (.tup vs)) := by
  obtain ⟨S', g⟩ := S.lay (o := .tup vs) hp
  exact k (.val (.tup ts)) _ _ _ _ _ (List.prefix_refl _) g S' (Rp.tup (.inl upd_same) (rp.mono g)) h
theorem ktupS (k : KontP K B as σ G (rR K B) Q Qv) (S : StR K B as γ σ G H) {a : Addr} (sq : SqX K G a vs) (rp : RpAll K G vs ts) (h : Qv (.val (.tup ts)) γ) : Q (.ref a) H :=
  kval k S (.tup sq rp) h
end
def Env.new (γ : Env) (t : T) (Q : RQ) : Prop := Q (.ref γ.mem.length) (γ.push (.mu t))
/-! ### argument lists, displays -/
def vNil : Env → (List Rf → Env → Prop) → XQ → Prop := fun γ Q _ => Q [] γ
def vCons (wa : VW) (wr : Env → (List Rf → Env → Prop) → XQ → Prop) : Env → (List Rf → Env → Prop) → XQ → Prop := fun γ Q X => wa γ (fun r γ1 => wr γ1 (fun rs γ2 => Q (r :: rs) γ2) X) X
instance : VA K B E tNil vNil := ⟨fun {as γ σ G H Q Qv Xv} S h k _ => k [] γ as [] G H (List.prefix_refl _) (Same.refl _) S .nil h⟩
instance {ta : TE} {tr : TA} {wa : VW} {wr : Env → (List Rf → Env → Prop) → XQ → Prop} [ha : VE K B E ta wa] [hr : VA K B E tr wr] : VA K B E (tCons ta tr) (vCons wa wr) where
  run := fun {as γ σ G H Q Qv Xv} S h k kx => by
    refine ha.run S h (fun r1 γ1 as1 v1 G1 H1 p1 g1 S1 rr1 q1 => ?_) kx
    refine hr.run S1 q1 (fun rs γ2 as2 vs G2 H2 p2 g2 S2 rr2 q2 => ?_) (kx.mono p1 g1)
    exact k _ _ _ _ _ _ (p1.trans p2) (g1.trans g2) S2 (.cons (RR.mono rr1 p2 g2) rr2) q2
/-- settled, one after another -/
def toTs : List Rf → Env → (List T → Env → Prop) → Prop
  | [], γ, Q => Q [] γ
  | r :: rs, γ, Q => toT r γ fun t γ1 => toTs rs γ1 fun ts γ2 => Q (t :: ts) γ2
theorem toTs_ok {as : List Addr} {σ : L2.St} {H : Hp} : ∀ {rs : List Rf} {vs : List V} {γ : Env} {G : Hp} {Q : List T → Env → Prop}, StR K B as γ σ G H → RRs K B.ex as G rs vs → toTs rs γ Q → ∃ ts γ' G', Same G G' ∧ StR K B as γ' σ G' H ∧ RpAll K G' vs ts ∧ Q ts γ'
  | _, _, γ, G, Q, S, .nil, h => ⟨[], γ, G, Same.refl _, S, .nil, h⟩
  | _, _, γ, G, Q, S, .cons a b, h => by
    obtain ⟨t, γ1, G1, g1, S1, rp1, h1⟩ := toT_ok S a h
    obtain ⟨ts, γ2, G2, g2, S2, rp2, h2⟩ := toTs_ok S1 (RRs.mono (List.prefix_refl _) g1 b) h1
    exact ⟨t :: ts, γ2, G2, g1.trans g2, S2, .cons (rp1.mono g2) rp2, h2⟩
def small (n : Nat) : Prop := n ≤ sizeLine
def vLst (wa : Env → (List Rf → Env → Prop) → XQ → Prop) : VW := fun γ Q X => wa γ (fun rs γ1 => toTs rs γ1 fun ts γ2 => small ts.length ∧ γ2.new (.lst ts) Q) X
def vTup (wa : Env → (List Rf → Env → Prop) → XQ → Prop) : VW := fun γ Q X => wa γ (fun rs γ1 => toTs rs γ1 fun ts γ2 => small ts.length ∧ Q (.val (.tup ts)) γ2) X
instance {t : TA} {wa : Env → (List Rf → Env → Prop) → XQ → Prop} [ha : VA K B E t wa] : VE K B E (tLst t) (vLst wa) where
  run := fun {as γ σ G H Q Qv Xv} S h k kx => by
    refine ha.run S h (fun rs γ1 as1 vs G1 H1 p1 g1 S1 rr1 q1 => ?_) kx
    obtain ⟨ts, γ2, G2, g2, S2, rp, hz, q⟩ := toTs_ok S1 rr1 q1
    exact ⟨by rw [rp.length]; exact hz, fun p hp => knew (k.mono p1 (g1.trans g2)) S2 rp q hp⟩
instance {t : TA} {wa : Env → (List Rf → Env → Prop) → XQ → Prop} [ha : VA K B E t wa] : VE K B E (tTup t) (vTup wa) where
  run := fun {as γ σ G H Q Qv Xv} S h k kx => by
    refine ha.run S h (fun rs γ1 as1 vs G1 H1 p1 g1 S1 rr1 q1 => ?_) kx
    obtain ⟨ts, γ2, G2, g2, S2, rp, hz, q⟩ := toTs_ok S1 rr1 q1
    exact ⟨by rw [rp.length]; exact hz, fun p hp => ktup (k.mono p1 (g1.trans g2)) S2 rp q hp⟩
/-! ### built-in calls of arguments -/
def vCB (wr : List Rf → VW) (wa : Env → (List Rf → Env → Prop) → XQ → Prop) : VW := fun γ Q X => wa γ (fun rs γ1 => wr rs γ1 Q X) X
instance {r : List V → Hp → VK → Prop} {wr : List Rf → VW} {t : TA} {wa : Env → (List Rf → Env → Prop) → XQ → Prop} [ha : VA K B E t wa] [hr : VC K B E r wr] : VE K B E (tCB r t) (vCB wr wa) where
  run := fun {as γ σ G H Q Qv Xv} S h k kx => by
    refine ha.run S h (fun rs γ1 as1 vs G1 H1 p1 g1 S1 rr1 q1 => ?_) kx
    exact hr.run S1 rr1 q1 (k.mono p1 g1) (kx.mono p1 g1)
/-- list(s), tuple(s) -/
def rListU (K : PySem.W.Frag) : List V → Hp → VK → Prop := fun xs H Q => ∃ p ys, xs = [.ref p] ∧ (SqL K H p ys ∨ SqT K H p ys) ∧ ∀ l, H l = none → Q (.ref l) (L2.upd H l (.lst ys))
def rTupU (K : PySem.W.Frag) : List V → Hp → VK → Prop := fun xs H Q => ∃ p ys, xs = [.ref p] ∧ ((SqL K H p ys ∧ ∀ l, H l = none → Q (.ref l) (L2.upd H l (.tup ys))) ∨ (SqT K H p ys ∧ Q (.ref p) H))
theorem call_listU {X : Cx} : CallR X (.type "list") (rListU X.K) := call_list_of
theorem call_tupU {X : Cx} : CallR X (.type "tuple") (rTupU X.K) := call_tuple_of
def vList : List Rf → VW := look1 fun t Q γ => seqT t fun _ ts => γ.new (.lst ts) Q
def vTuple : List Rf → VW := look1 fun t Q γ => seqT t fun _ ts => Q (.val (.tup ts)) γ
section
variable {as : List Addr} {γ : Env} {σ : L2.St} {G H : Hp} {v : V} {t : T}
theorem seq_any (S : StR K B as γ σ G H) {Q : Bool → List T → Prop} (z : Rp K G v t ∨ ∃ a, v = .ref a ∧ MutR K G H a t) (h : seqT t Q) : ∃ b ts a acc, v = .ref a ∧ SqK2 K H a acc b ∧ RpAll K G acc ts ∧ Q b ts ∧ (b = false → t = .tup ts ∧ SqX K G a acc) := by
  cases t with
  | lst ts =>
    rcases z with z | ⟨a, rfl, acc, z1, z2⟩
    · cases z with | lst z1 z2 => exact ⟨true, ts, _, _, rfl, SqL.of (S.vw _ _ z1), z2, h, fun e => by cases e⟩
    · exact ⟨true, ts, a, acc, rfl, SqL.of z1, z2, h, fun e => by cases e⟩
  | scr ts =>
    rcases z with z | ⟨a, rfl, z1⟩
    · cases z with | scr z1 z2 => exact ⟨true, ts, _, _, rfl, SqL.same z1 S.vw, z2, h, fun e => by cases e⟩
    · exact z1.elim
  | tup ts =>
    rcases z with z | ⟨a, rfl, z1⟩
    · cases z with | tup z1 z2 => exact ⟨false, ts, _, _, rfl, SqT.same z1.t S.vw, z2, h, fun _ => ⟨rfl, z1⟩⟩
    · exact z1.elim
  | _ => exact h.elim
end
instance : VC K B E (rListU K) vList where
  run := fun {as γ σ G H vs rs Q Qv Xv} S r1 h k _ => by
    obtain ⟨v, t, rfl, z, h⟩ := look1_ok S r1 h
    obtain ⟨b, ts, a, acc, rfl, sq, rp, q, _⟩ := seq_any S z h
    exact ⟨a, acc, rfl, sq.or, fun l hl => knew k S rp q hl⟩
instance : VC K B E (rTupU K) vTuple where
  run := fun {as γ σ G H vs rs Q Qv Xv} S r1 h k _ => by
    obtain ⟨v, t, rfl, z, h⟩ := look1_ok S r1 h
    obtain ⟨b, ts, a, acc, rfl, sq, rp, q, hb⟩ := seq_any S z h
    cases b with
    | true => exact ⟨a, acc, rfl, .inl ⟨sq, fun l hl => ktup k S rp q hl⟩⟩
    | false =>
      obtain ⟨_, sg⟩ := hb rfl
      exact ⟨a, acc, rfl, .inr ⟨sq, ktupS k S sg rp q⟩⟩
/-! ### slices -/
def rSlU (K : PySem.W.Frag) : V → Option Int → Option Int → Hp → VK → Prop := fun x lo hi H Q => rSlL K x lo hi H Q ∨ rSlA K x lo hi H Q ∨ rSlS x lo hi H Q
theorem sl_any {X : Cx} : SlR X (rSlU X.K) := by
  intro pins s σ H x v vl vu lo hi sl Q I r hs hl hu h
  rcases h with h | h | h
  · exact sl_list pins s σ H x v vl vu lo hi sl Q I r hs hl hu h
  · exact sl_tupA pins s σ H x v vl vu lo hi sl Q I r hs hl hu h
  · exact sl_str pins s σ H x v vl vu lo hi sl Q I r hs hl hu h
def cutT (xs : List T) (lo hi : Option Int) : List T := (xs.drop (HT.sIx xs.length 0 lo)).take (HT.sIx xs.length xs.length hi - HT.sIx xs.length 0 lo)
theorem RpAll.cut {G : Hp} {vs : List V} {ts : List T} (h : RpAll K G vs ts) (lo hi : Option Int) : RpAll K G (cutV vs lo hi) (cutT ts lo hi) := by
  unfold cutV cutT
  rw [h.length]
  exact (h.drop _).take _
theorem cut_whole {α : Type} (ts : List α) {a b : Nat} (h : a = 0 ∧ b = ts.length) : (ts.drop a).take (b - a) = ts := by
  rw [h.1, h.2, List.drop_zero, Nat.sub_zero, List.take_length]
def vNoPart : Env → (Option Int → Env → Prop) → XQ → Prop := fun γ Q _ => Q none γ
def vPart (wa : VW) : Env → (Option Int → Env → Prop) → XQ → Prop := fun γ Q X => wa γ (fun r γ1 => peek r γ1 fun t => match t with
  | .int i => Q (some i) γ1
  | _ => False) X
class VO (K : PySem.W.Frag) (B : Bs) (E : L2.St → XK) (t : TO) (w : outParam (Env → (Option Int → Env → Prop) → XQ → Prop)) : Prop where
  run : ∀ {as : List Addr} {γ : Env} {σ : L2.St} {G H : Hp} {Q : Option Int → Hp → Prop} {Qv : Option Int → Env → Prop} {Xv : XQ}, StR K B as γ σ G H → w γ Qv Xv → KontP K B as σ G (fun _ _ _ a b => a = b) Q Qv → KontX K B as σ G (E σ) Xv → t σ H Q
instance : VO K B E tNoPart vNoPart := ⟨fun {as γ σ G H Q Qv Xv} S h k _ => k none γ as none G H (List.prefix_refl _) (Same.refl _) S rfl h⟩
instance {ta : TE} {wa : VW} [ha : VE K B E ta wa] : VO K B E (tPart ta) (vPart wa) where
  run := fun {as γ σ G H Q Qv Xv} S h k kx => by
    refine ha.run S h (fun r1 γ1 as1 v1 G1 H1 p1 g1 S1 rr1 q1 => ?_) kx
    obtain ⟨t, q, z⟩ := peek_rp S1 rr1 q1
    split at q
    · cases z; exact ⟨_, rfl, k _ _ _ _ _ _ p1 g1 S1 rfl q⟩
    · exact q.elim
def slQ (t : T) (lo hi : Option Int) (Q : RQ) (γ : Env) : Prop :=
  match t with
  | .lst ts => γ.new (.lst (cutT ts lo hi)) Q
  | .scr ts => γ.new (.lst (cutT ts lo hi)) Q
  | .tup ts => Q (.val (.tup (cutT ts lo hi))) γ
  | .str z => z.length ≤ sizeLine ∧ Q (.val (.str (cutS z lo hi))) γ
  | _ => False
def vSl (we : VW) (wl wh : Env → (Option Int → Env → Prop) → XQ → Prop) : VW := fun γ Q X => we γ (fun r γ1 => wl γ1 (fun lo γ2 => wh γ2 (fun hi γ3 => peek r γ3 fun t => slQ t lo hi Q γ3) X) X) X
theorem strOk_cut {z : Str} (h : PyData.strOk z = true) (lo hi : Option Int) : PyData.strOk (cutS z lo hi) = true := (okS.cut (n := z.length) ⟨h, Nat.le_refl _⟩ lo hi).1
instance {te : TE} {tl th : TO} {we : VW} {wl wh : Env → (Option Int → Env → Prop) → XQ → Prop} [he : VE K B E te we] [hl : VO K B E tl wl] [hh : VO K B E th wh] : VE K B E (tSl (rSlU K) te tl th) (vSl we wl wh) where
  run := fun {as γ σ G H Q Qv Xv} S h k kx => by
    refine he.run S h (fun r1 γ1 as1 v1 G1 H1 p1 g1 S1 rr1 q1 => ?_) kx
    refine hl.run S1 q1 (fun lo γ2 as2 lo' G2 H2 p2 g2 S2 e2 q2 => ?_) (kx.mono p1 g1)
    subst e2
    refine hh.run S2 q2 (fun hi γ3 as3 hi' G3 H3 p3 g3 S3 e3 q3 => ?_) ((kx.mono p1 g1).mono p2 g2)
    subst e3
    have k3 := ((k.mono p1 g1).mono p2 g2).mono p3 g3
    have rr := RR.mono rr1 (p2.trans p3) (g2.trans g3)
    obtain ⟨t, q, z⟩ := peek_ok S3 rr q3
    unfold slQ at q
    split at q
    · rcases z with z | ⟨a, rfl, acc, z1, z2⟩
      · cases z with | lst z1 z2 => exact .inl ⟨_, _, rfl, SqL.of (S3.vw _ _ z1), fun p hp => knew k3 S3 (z2.cut lo hi) q hp⟩
      · exact .inl ⟨_, _, rfl, SqL.of z1, fun p hp => knew k3 S3 (z2.cut lo hi) q hp⟩
    · rcases z with z | ⟨a, rfl, z1⟩
      · cases z with | scr z1 z2 => exact .inl ⟨_, _, rfl, SqL.same z1 S3.vw, fun p hp => knew k3 S3 (z2.cut lo hi) q hp⟩
      · exact z1.elim
    · rename_i ts
      rcases z with z | ⟨a, rfl, z1⟩
      · cases z with | tup z1 z2 =>
        refine .inr (.inl ⟨_, _, rfl, SqT.same z1.t S3.vw, fun hw => ?_, fun _ p hp => ktup k3 S3 (z2.cut lo hi) q hp⟩)
        refine ktupS k3 S3 z1 z2 ?_
        have e : cutT ts lo hi = ts := by
          unfold cutT
          rw [z2.length] at hw
          exact cut_whole ts hw
        rw [e] at q
        exact q
      · exact z1.elim
    · rcases z with z | ⟨a, rfl, z1⟩
      · cases z with | str _ ok => exact .inr (.inr ⟨_, rfl, q.1, kval k3 S3 (.str _ (strOk_cut ok lo hi)) q.2⟩)
      · exact z1.elim
    · exact q.elim
/-- s[::-1] of a list -/
def vRevL (we : VW) : VW := fun γ Q X => we γ (fun r γ1 => peek r γ1 fun t => match t with
  | .lst ts => γ1.new (.lst ts.reverse) Q
  | _ => False) X
instance {te : TE} {we : VW} [he : VE K B E te we] : VE K B E (tRevL K te) (vRevL we) where
  run := fun {as γ σ G H Q Qv Xv} S h k kx => by
    refine he.run S h (fun r1 γ1 as1 v1 G1 H1 p1 g1 S1 rr1 q1 => ?_) kx
    have k1 := k.mono p1 g1
    obtain ⟨t, q, z⟩ := peek_ok S1 rr1 q1
    split at q
    · rcases z with z | ⟨a, rfl, acc, z1, z2⟩
      · cases z with | lst z1 z2 => exact ⟨_, _, rfl, SqL.of (S1.vw _ _ z1), fun p hp => knew k1 S1 z2.reverse q hp⟩
      · exact ⟨_, _, rfl, SqL.of z1, fun p hp => knew k1 S1 z2.reverse q hp⟩
    · exact q.elim
/-! ### + and * of lists, tuples, texts -/
def rAddU (K : PySem.W.Frag) : R2 := fun x y H Q => (∃ i j, x = .int i ∧ y = .int j ∧ Q (.int (i + j)) H) ∨ rCat x y H Q ∨ rCatA K x y H Q ∨ (∃ i j, x = .str i ∧ y = .str j ∧ i.length + j.length ≤ sizeLine ∧ Q (.str (i ++ j)) H)
theorem op_addU {X : Cx} : OpR X (binaryOp .Add) (rAddU X.K) := by
  intro pins s σ H x y v u Q I rx ry h
  rcases h with ⟨i, j, e1, e2, q⟩ | h | h | h
  · exact op_add pins s σ H x y v u Q I rx ry ⟨i, j, e1, e2, q⟩
  · exact op_cat pins s σ H x y v u Q I rx ry h
  · exact op_catA pins s σ H x y v u Q I rx ry h
  · exact op_add_str pins s σ H x y v u Q I rx ry h
def addQ (x y : T) (Q : RQ) (γ : Env) : Prop :=
  match x with
  | .int i => match y with
    | .int j => Q (.val (.int (i + j))) γ
    | _ => False
  | .lst ts => match y with
    | .lst us => small (ts.length + us.length) ∧ γ.new (.lst (ts ++ us)) Q
    | _ => False
  | .tup ts => match y with
    | .tup us => small (ts.length + us.length) ∧ Q (.val (.tup (ts ++ us))) γ
    | _ => False
  | .str i => match y with
    | .str j => small (i.length + j.length) ∧ Q (.val (.str (i ++ j))) γ
    | _ => False
  | _ => False
def vAdd : Rf → Rf → VW := peek2 addQ
theorem strOk_app {a b : Str} (h : PyData.strOk a = true) (k : PyData.strOk b = true) : PyData.strOk (a ++ b) = true := (okS.add (n := a.length) (m := b.length) ⟨h, Nat.le_refl _⟩ ⟨k, Nat.le_refl _⟩).1
section
variable {as : List Addr} {γ : Env} {σ : L2.St} {G H : Hp} {r1 r2 : Rf} {x y : V}
theorem peek2_ok {f : T → T → RQ → Env → Prop} {Q : RQ} {X : XQ} (S : StR K B as γ σ G H) (h1 : RR K B.ex as G r1 x) (h2 : RR K B.ex as G r2 y) (h : peek2 f r1 r2 γ Q X) : ∃ t u, (Rp K G x t ∨ ∃ a, x = .ref a ∧ MutR K G H a t) ∧ (Rp K G y u ∨ ∃ a, y = .ref a ∧ MutR K G H a u) ∧ f t u Q γ := by
  obtain ⟨t, h, e1⟩ := peek_ok S h1 h
  obtain ⟨u, h, e2⟩ := peek_ok S h2 h
  exact ⟨t, u, e1, e2, h⟩
theorem lst_any {ts : List T} (S : StR K B as γ σ G H) (z : Rp K G x (.lst ts) ∨ ∃ a, x = .ref a ∧ MutR K G H a (.lst ts)) : ∃ a acc, x = .ref a ∧ H a = some (.lst acc) ∧ RpAll K G acc ts := by
  rcases z with z | ⟨a, rfl, acc, z1, z2⟩
  · cases z with | lst z1 z2 => exact ⟨_, _, rfl, S.vw _ _ z1, z2⟩
  · exact ⟨_, _, rfl, z1, z2⟩
theorem tup_any {ts : List T} (z : Rp K G x (.tup ts) ∨ ∃ a, x = .ref a ∧ MutR K G H a (.tup ts)) : ∃ a acc, x = .ref a ∧ SqX K G a acc ∧ RpAll K G acc ts := by
  rcases z with z | ⟨a, rfl, z1⟩
  · cases z with | tup z1 z2 => exact ⟨_, _, rfl, z1, z2⟩
  · exact z1.elim
theorem int_any {i : Int} (z : Rp K G x (.int i) ∨ ∃ a, x = .ref a ∧ MutR K G H a (.int i)) : x = .int i := by
  rcases z with z | ⟨a, rfl, z1⟩
  · cases z; rfl
  · exact z1.elim
theorem str_any {i : Str} (z : Rp K G x (.str i) ∨ ∃ a, x = .ref a ∧ MutR K G H a (.str i)) : x = .str i ∧ PyData.strOk i = true := by
  rcases z with z | ⟨a, rfl, z1⟩
  · cases z with | str _ ok => exact ⟨rfl, ok⟩
  · exact z1.elim
theorem bl_any {i : Bool} (z : Rp K G x (.bl i) ∨ ∃ a, x = .ref a ∧ MutR K G H a (.bl i)) : x = .bl i := by
  rcases z with z | ⟨a, rfl, z1⟩
  · cases z; rfl
  · exact z1.elim
end
instance : V2 K B E (rAddU K) vAdd where
  run := fun {as γ σ G H x y rx ry Q Qv Xv} S r1 r2 h k _ => by
    obtain ⟨t, u, z1, z2, h⟩ := peek2_ok S r1 r2 h
    unfold addQ at h
    split at h
    · split at h
      · exact .inl ⟨_, _, int_any z1, int_any z2, kval k S (.int _) h⟩
      · exact h.elim
    · split at h
      · obtain ⟨a, xs, rfl, e1, p1⟩ := lst_any S z1
        obtain ⟨b, ys, rfl, e2, p2⟩ := lst_any S z2
        exact .inr (.inl ⟨a, b, xs, ys, rfl, rfl, e1, e2, by rw [p1.length, p2.length]; exact h.1, fun p hp => knew k S (p2.append p1) h.2 hp⟩)
      · exact h.elim
    · split at h
      · obtain ⟨a, xs, rfl, e1, p1⟩ := tup_any z1
        obtain ⟨b, ys, rfl, e2, p2⟩ := tup_any z2
        refine .inr (.inr (.inl ⟨a, b, xs, ys, rfl, rfl, SqT.same e1.t S.vw, SqT.same e2.t S.vw, by rw [p1.length, p2.length]; exact h.1, fun e => ?_, fun _ e => ?_, fun _ _ p hp => ktup k S (p2.append p1) h.2 hp⟩))
        · subst e
          cases p1
          exact ktupS k S e2 p2 h.2
        · subst e
          cases p2
          have q := h.2
          rw [List.append_nil] at q
          exact ktupS k S e1 p1 q
      · exact h.elim
    · split at h
      · obtain ⟨rfl, o1⟩ := str_any z1
        obtain ⟨rfl, o2⟩ := str_any z2
        exact .inr (.inr (.inr ⟨_, _, rfl, rfl, h.1, kval k S (.str _ (strOk_app o1 o2)) h.2⟩))
      · exact h.elim
    · exact h.elim
/-- [..] * n -/
def vRep : Rf → Rf → VW := peek2 fun x y Q γ => match x with
  | .lst ts => match y with
    | .int n => (-(2 ^ 63) ≤ n ∧ n < 2 ^ 63 ∧ small (ts.length * n.toNat)) ∧ γ.new (.lst (List.replicate n.toNat ts).flatten) Q
    | _ => False
  | _ => False
end
section
variable {K : PySem.W.Frag} {B : Bs} {E : L2.St → XK}
instance (priority := 3000) eqNilI {ta : TE} {wa wb : VW} [ha : VE K B E ta wa] [hb : VE K B E (tLst tNil) wb] : VE K B E (tOp (rEqD K) ta (tLst tNil)) (vOp (vEqN false) wa wb) :=
  have := v2_eqN (K := K) (B := B) (E := E)
  inferInstanceAs (VE K B E (tOp (rEqD K) ta (tLst tNil)) (vOp (vEqN false) wa wb))
instance (priority := 3000) neNilI {ta : TE} {wa wb : VW} [ha : VE K B E ta wa] [hb : VE K B E (tLst tNil) wb] : VE K B E (tOp (rNeD K) ta (tLst tNil)) (vOp (vEqN true) wa wb) :=
  have := v2_neN (K := K) (B := B) (E := E)
  inferInstanceAs (VE K B E (tOp (rNeD K) ta (tLst tNil)) (vOp (vEqN true) wa wb))
end
end VL
set_option Elab.async false
set_option linter.all false
set_option maxRecDepth 100000
set_option maxHeartbeats 4000000
/-! readings over values: more operators, texts, isinstance, fields, tests -/
namespace VL
open PySem PySem.Spec PyProof.Rows L2 XR
section
variable {K : PySem.W.Frag} {B : Bs} {E : L2.St → XK}
/-! ### * of lists and texts -/
def rMulU (K : PySem.W.Frag) : R2 := fun x y H Q => (∃ i j, x = .int i ∧ y = .int j ∧ (CMul i j ∨ CMulW i j) ∧ Q (.int (i * j)) H) ∨ rRep x y H Q ∨ rMulS x y H Q
theorem op_mulU {X : Cx} : OpR X (binaryOp .Mult) (rMulU X.K) := by
  intro pins s σ H x y v u Q I rx ry h
  rcases h with ⟨i, j, e1, e2, c, q⟩ | h | h
  · rcases c with c | c
    · exact op_mul pins s σ H x y v u Q I rx ry ⟨i, j, e1, e2, c, q⟩
    · exact op_mulW pins s σ H x y v u Q I rx ry ⟨i, j, e1, e2, c, q⟩
  · exact op_rep pins s σ H x y v u Q I rx ry h
  · exact op_mul_str pins s σ H x y v u Q I rx ry h
def mulQ (x y : T) (Q : RQ) (γ : Env) : Prop :=
  match x with
  | .int i => match y with
    | .int j => (CMul i j ∨ CMulW i j) ∧ Q (.val (.int (i * j))) γ
    | _ => False
  | .lst ts => match y with
    | .int n => (-(2 ^ 63) ≤ n ∧ n < 2 ^ 63 ∧ ts.length * n.toNat ≤ sizeLine) ∧ γ.new (.lst (List.replicate n.toNat ts).flatten) Q
    | _ => False
  | .str z => match y with
    | .int n => (1 ≤ n ∧ n ≤ 30 ∧ z.length ≤ 30) ∧ Q (.val (.str (mulS z n))) γ
    | _ => False
  | _ => False
def vMul : Rf → Rf → VW := peek2 mulQ
theorem strOk_empty : PyData.strOk Str.empty = true := by decide +kernel
theorem strOk_mul {a : Str} (h : PyData.strOk a = true) (n : Int) : PyData.strOk (mulS a n) = true := by
  have h : a.cps.all (fun c => decide (c < 0x110000)) = true := h
  unfold mulS
  split
  · exact strOk_empty
  · split
    · exact h
    · exact fold_all (fun c => decide (c < 0x110000)) a.cps h _ _ (by simp)
instance : V2 K B E (rMulU K) vMul where
  run := fun {as γ σ G H x y rx ry Q Qv Xv} S r1 r2 h k _ => by
    obtain ⟨t, u, z1, z2, h⟩ := peek2_ok S r1 r2 h
    unfold mulQ at h
    split at h
    · split at h
      · exact .inl ⟨_, _, int_any z1, int_any z2, h.1, kval k S (.int _) h.2⟩
      · exact h.elim
    · split at h
      · obtain ⟨a, xs, rfl, e1, p1⟩ := lst_any S z1
        refine .inr (.inl ⟨a, _, xs, rfl, int_any z2, e1, h.1.1, h.1.2.1, by rw [p1.length]; exact h.1.2.2, fun p hp => knew k S (p1.rep _) h.2 hp⟩)
      · exact h.elim
    · split at h
      · obtain ⟨rfl, o1⟩ := str_any z1
        exact .inr (.inr ⟨_, _, rfl, int_any z2, h.1.1, h.1.2.1, h.1.2.2, kval k S (.str _ (strOk_mul o1 _)) h.2⟩)
      · exact h.elim
    · exact h.elim
/-! ### texts of numbers, f-strings -/
theorem strOk_digits {s : String} (h : ∀ c ∈ s.toList, c.toNat < 0x110000) : PyData.strOk (Str.ofString s) = true := by
  have e : (Str.ofString s).cps = (s.toList.map Char.toNat).toArray := by rw [Str.ofString_eq_toList]
  show (Str.ofString s).cps.all _ = true
  rw [e]
  simp only [List.all_toArray, List.all_map, List.all_eq_true, Function.comp_apply, decide_eq_true_eq]
  intro c hc
  exact h c hc
theorem strOk_of (s : String) : PyData.strOk (Str.ofString s) = true := strOk_digits fun c _ => by
  have := c.valid
  have h : c.toNat < 0x110000 := by
    rcases this with z | z
    · have : c.toNat < 0xd800 := z
      omega
    · exact z.2
  exact h
theorem strOk_int (i : Int) : PyData.strOk (toString i : String) = true := strOk_of _
def vStrI : List Rf → VW := look1 fun t Q γ => match t with
  | .int i => i.natAbs.log2 < 1920 ∧ Q (.val (.str (toString i : String))) γ
  | _ => False
instance : VC K B E rStrI vStrI where
  run := fun {as γ σ G H vs rs Q Qv Xv} S r1 h k _ => by
    obtain ⟨v, t, rfl, z, h⟩ := look1_ok S r1 h
    split at h
    · rw [int_any z]
      exact ⟨_, rfl, h.1, kval k S (.str _ (strOk_int _)) h.2⟩
    · exact h.elim
def vFmt (wa : VW) : VW := fun γ Q X => wa γ (fun r γ1 => peek r γ1 fun t => match t with
  | .int i => i.natAbs.log2 < 1920 ∧ Q (.val (.str (toString i : String))) γ1
  | .str y => small y.length ∧ Q (.val (.str y)) γ1
  | _ => False) X
instance {te : TE} {wa : VW} [ha : VE K B E te wa] : VE K B E (tFmt te) (vFmt wa) where
  run := fun {as γ σ G H Q Qv Xv} S h k kx => by
    refine ha.run S h (fun r1 γ1 as1 v1 G1 H1 p1 g1 S1 rr1 q1 => ?_) kx
    obtain ⟨t, q, z⟩ := peek_ok S1 rr1 q1
    have k1 := k.mono p1 g1
    split at q
    · exact .inr ⟨_, int_any z, q.1, kval k1 S1 (.str _ (strOk_int _)) q.2⟩
    · obtain ⟨rfl, o⟩ := str_any z
      exact .inl ⟨_, rfl, q.1, kval k1 S1 (.str _ o) q.2⟩
    · exact q.elim
class VJ (K : PySem.W.Frag) (B : Bs) (E : L2.St → XK) (ts : List TE) (w : outParam (Str → Env → (Str → Env → Prop) → XQ → Prop)) : Prop where
  run : ∀ {as : List Addr} {γ : Env} {σ : L2.St} {G H : Hp} {acc : Str} {Q : Str → Hp → Prop} {Qv : Str → Env → Prop} {Xv : XQ}, StR K B as γ σ G H → PyData.strOk acc = true → w acc γ Qv Xv → KontP K B as σ G (fun _ _ _ a b => a = b ∧ PyData.strOk a = true) Q Qv → KontX K B as σ G (E σ) Xv → tJs ts acc σ H Q
def vJnil : Str → Env → (Str → Env → Prop) → XQ → Prop := fun acc γ Q _ => Q acc γ
def vJcons (wa : VW) (wr : Str → Env → (Str → Env → Prop) → XQ → Prop) : Str → Env → (Str → Env → Prop) → XQ → Prop := fun acc γ Q X => wa γ (fun r γ1 => peek r γ1 fun t => match t with
  | .str y => small (acc ++ y).length ∧ wr (acc ++ y) γ1 Q X
  | _ => False) X
instance : VJ K B E [] vJnil := ⟨fun {as γ σ G H acc Q Qv Xv} S o h k _ => k acc γ as acc G H (List.prefix_refl _) (Same.refl _) S ⟨rfl, o⟩ h⟩
instance {t : TE} {ts : List TE} {wa : VW} {wr : Str → Env → (Str → Env → Prop) → XQ → Prop} [ha : VE K B E t wa] [hr : VJ K B E ts wr] : VJ K B E (t :: ts) (vJcons wa wr) where
  run := fun {as γ σ G H acc Q Qv Xv} S o h k kx => by
    refine ha.run S h (fun r1 γ1 as1 v1 G1 H1 p1 g1 S1 rr1 q1 => ?_) kx
    obtain ⟨t, q, z⟩ := peek_ok S1 rr1 q1
    split at q
    · obtain ⟨rfl, o2⟩ := str_any z
      exact ⟨_, rfl, q.1, hr.run S1 (strOk_app o o2) q.2 (k.mono p1 g1) (kx.mono p1 g1)⟩
    · exact q.elim
def tJoin (ts : List TE) : TE := fun σ H Q => tJs ts Str.empty σ H fun out H1 => Q (.str out) H1
theorem pe_joinedU {X : Cx} {v1 v2 : Expr} {rest : List Expr} {ts : List TE} {pos : Pos} (h : PJ X (v1 :: v2 :: rest) ts) : PE X (.JoinedStr (v1 :: v2 :: rest) pos) (tJoin ts) := pe_joined h
def vJoin (wr : Str → Env → (Str → Env → Prop) → XQ → Prop) : VW := fun γ Q X => wr Str.empty γ (fun out γ1 => Q (.val (.str out)) γ1) X
instance {ts : List TE} {wr : Str → Env → (Str → Env → Prop) → XQ → Prop} [hr : VJ K B E ts wr] : VE K B E (tJoin ts) (vJoin wr) where
  run := fun {as γ σ G H Q Qv Xv} S h k kx => by
    refine hr.run S strOk_empty h (fun out γ1 as1 out' G1 H1 p1 g1 S1 e q1 => ?_) kx
    obtain ⟨rfl, o⟩ := e
    exact kval (k.mono p1 g1) S1 (.str _ o) q1
/-! ### isinstance -/
/-- the class of a value -/
inductive TyR (K : PySem.W.Frag) : T → Value → Prop
  | non : TyR K .non (.type "NoneType")
  | bl (b : Bool) : TyR K (.bl b) (.type "bool")
  | int (i : Int) : TyR K (.int i) (.type "int")
  | str (s : Str) : TyR K (.str s) (.type "str")
  | lst (ts : List T) : TyR K (.lst ts) (.type "list")
  | tup (ts : List T) : TyR K (.tup ts) (.type "tuple")
  | dk (ts : List (Key × T)) : TyR K (.dk ts) (.type "dict")
  | obj {C : Addr} {gs : List (Str × T)} (h : ∀ (H : Hp) (a dx : Addr) (fs : List (Str × V)), H a = some (.ins C dx fs) → TyX K H (.ref a) (.ref C)) : TyR K (.obj C gs) (.ref C)
inductive ClR : T → Value → Prop
  | ty (n : String) : ClR (.ty n) (.type n)
  | cls (a : Addr) : ClR (.cls a) (.ref a)
/-- isinstance(x, c) is b -/
inductive IsI (K : PySem.W.Frag) (x c : T) (b : Bool) : Prop
  | mk (t u : Value) (h1 : TyR K x t) (h2 : ClR c u) (h3 : PySem.W.kitOne K t u = some b) : IsI K x c b
section
variable {H : Hp} {v : V} {t : T} {u : Value}
theorem TyR.ok (h : TyR K t u) (r : Rp K H v t) : TyX K H v u := by
  cases h with
  | non => cases r; exact .base .non
  | bl b => cases r; exact .base (.bl b)
  | int i => cases r; exact .base (.int i)
  | str s => cases r; exact .base (.str s)
  | lst ts => cases r with | lst e _ => exact .base (.lst e)
  | tup ts =>
    cases r with | tup e _ =>
    rcases e with e | ⟨o, its, n, e, c, _⟩
    · exact .base (.tup e)
    · exact .kTuple e c
  | dk ts => cases r with | dk e _ _ => exact .base (.dK e)
  | obj h => cases r with | obj e _ _ => exact h _ _ _ _ e
theorem ClR.ok (h : ClR t u) (r : Rp K H v t) : ClsV v u := by
  cases h with
  | ty n => cases r; exact .ty n
  | cls a => cases r; exact .own a
end
def vIsi : List Rf → VW := look2 fun x c Q γ => ∃ b, isI x c = some b ∧ Q (.val (.bl b)) γ
where isI (x c : T) : Option Bool := none
def vIsiK (K : PySem.W.Frag) : List Rf → VW := look2 fun x c Q γ => ∃ b, IsI K x c b ∧ Q (.val (.bl b)) γ
instance : VC K B E (rIsi K) (vIsiK K) where
  run := fun {as γ σ G H vs rs Q Qv Xv} S r1 h k _ => by
    obtain ⟨v, u, t, s, rfl, z1, z2, h⟩ := look2_ok S r1 h
    obtain ⟨b, ⟨t', u', h1, h2, h3⟩, q⟩ := h
    exact ⟨_, _, _, _, b, rfl, h2.ok (rp_any S z2), h1.ok (rp_any S z1), h3, kval k S (.bl _) q⟩
theorem IsI.b {x : T} {a n : String} {b : Bool} (h : TyR K x (.type a)) (e : kitB a n = some b) : IsI K x (.ty n) b := ⟨_, _, h, .ty n, kit_ty e⟩
theorem IsI.int_int (i : Int) : IsI K (.int i) (.ty "int") true := .b (.int i) (by decide +kernel)
theorem IsI.int_bool (i : Int) : IsI K (.int i) (.ty "bool") false := .b (.int i) (by decide +kernel)
theorem IsI.int_str (i : Int) : IsI K (.int i) (.ty "str") false := .b (.int i) (by decide +kernel)
theorem IsI.int_list (i : Int) : IsI K (.int i) (.ty "list") false := .b (.int i) (by decide +kernel)
theorem IsI.int_tuple (i : Int) : IsI K (.int i) (.ty "tuple") false := .b (.int i) (by decide +kernel)
theorem IsI.bl_int (i : Bool) : IsI K (.bl i) (.ty "int") true := .b (.bl i) (by decide +kernel)
theorem IsI.bl_bool (i : Bool) : IsI K (.bl i) (.ty "bool") true := .b (.bl i) (by decide +kernel)
theorem IsI.bl_str (i : Bool) : IsI K (.bl i) (.ty "str") false := .b (.bl i) (by decide +kernel)
theorem IsI.str_str (i : Str) : IsI K (.str i) (.ty "str") true := .b (.str i) (by decide +kernel)
theorem IsI.str_int (i : Str) : IsI K (.str i) (.ty "int") false := .b (.str i) (by decide +kernel)
theorem IsI.str_bool (i : Str) : IsI K (.str i) (.ty "bool") false := .b (.str i) (by decide +kernel)
theorem IsI.lst_list (i : List T) : IsI K (.lst i) (.ty "list") true := .b (.lst i) (by decide +kernel)
theorem IsI.lst_tuple (i : List T) : IsI K (.lst i) (.ty "tuple") false := .b (.lst i) (by decide +kernel)
theorem IsI.tup_list (i : List T) : IsI K (.tup i) (.ty "list") false := .b (.tup i) (by decide +kernel)
theorem IsI.tup_tuple (i : List T) : IsI K (.tup i) (.ty "tuple") true := .b (.tup i) (by decide +kernel)
theorem IsI.tup_str (i : List T) : IsI K (.tup i) (.ty "str") false := .b (.tup i) (by decide +kernel)
theorem IsI.tup_int (i : List T) : IsI K (.tup i) (.ty "int") false := .b (.tup i) (by decide +kernel)
theorem IsI.non_int : IsI K .non (.ty "int") false := .b .non (by decide +kernel)
theorem IsI.non_tuple : IsI K .non (.ty "tuple") false := .b .non (by decide +kernel)
theorem IsI.non_list : IsI K .non (.ty "list") false := .b .non (by decide +kernel)
theorem IsI.non_str : IsI K .non (.ty "str") false := .b .non (by decide +kernel)
theorem IsI.dk_dict (i : List (Key × T)) : IsI K (.dk i) (.ty "dict") true := .b (.dk i) (by decide +kernel)
/-- of an instance: by what the classes say -/
theorem IsI.obj {C : Addr} {gs : List (Str × T)} {c : T} {u : Value} {b : Bool} (h : ∀ (H : Hp) (a dx : Addr) (fs : List (Str × V)), H a = some (.ins C dx fs) → TyX K H (.ref a) (.ref C)) (k : ClR c u) (e : PySem.W.kitOne K (.ref C) u = some b) : IsI K (.obj C gs) c b := ⟨_, _, .obj h, k, e⟩
/-- isinstance(x, (c1, c2, ..)) -/
inductive IsIs (K : PySem.W.Frag) (x : T) : List T → Bool → Prop
  | nil (t : Value) (h : TyR K x t) : IsIs K x [] false
  | yes {c : T} {cs : List T} (h : IsI K x c true) (k : ∃ us, Paired ClR cs us) : IsIs K x (c :: cs) true
  | no {c : T} {cs : List T} {b : Bool} (h : IsI K x c false) (k : IsIs K x cs b) : IsIs K x (c :: cs) b
/-! ### fields -/
def vFld (K : PySem.W.Frag) (f : Str) (wa : VW) : VW := fun γ Q X => wa γ (fun r γ1 => peek r γ1 fun t => match t with
  | .obj C gs => (Cls K C ∧ NoAttr K C f) ∧ isS (gs.lookup f) fun t => Q (.val t) γ1
  | _ => False) X
theorem lookup_rp {G : Hp} {f : Str} {t : T} : ∀ {fs : List (Str × V)} {gs : List (Str × T)}, RpF K G fs gs → gs.lookup f = some t → ∃ v, fs.lookup f = some v ∧ Rp K G v t
  | fs, [], _, e => by cases e
  | [], g :: gs, h, e => by have := h.1; cases this
  | (n, v) :: fs, (m, u) :: gs, h, e => by
    have h1 := h.1
    simp only [List.map_cons, List.cons.injEq] at h1
    obtain ⟨rfl, h1⟩ := h1
    have h2 := h.2
    cases h2 with | cons a b =>
    unfold List.lookup at e ⊢
    cases hb : f == n with
    | true => rw [hb] at e; cases e; exact ⟨v, rfl, a⟩
    | false => rw [hb] at e; exact lookup_rp ⟨h1, b⟩ e
instance {f : Str} {ta : TE} {wa : VW} [ha : VE K B E ta wa] : VE K B E (tFld K ta f) (vFld K f wa) where
  run := fun {as γ σ G H Q Qv Xv} S h k kx => by
    refine ha.run S h (fun r1 γ1 as1 v1 G1 H1 p1 g1 S1 rr1 q1 => ?_) kx
    obtain ⟨t, q, z⟩ := peek_ok S1 rr1 q1
    split at q
    · obtain ⟨⟨c1, c2⟩, q⟩ := q
      obtain ⟨t, e, q⟩ := isS_e q
      rcases z with z | ⟨a, rfl, dx, fs, z1, z2⟩
      · cases z with | obj z1 z2 z3 =>
        obtain ⟨v, ev, rv⟩ := lookup_rp ⟨z2, z3⟩ e
        exact ⟨_, _, _, _, v, rfl, S1.vw _ _ z1, c1, c2, ev, kval (k.mono p1 g1) S1 rv q⟩
      · obtain ⟨v, ev, rv⟩ := lookup_rp z2 e
        exact ⟨_, _, _, _, v, rfl, z1, c1, c2, ev, kval (k.mono p1 g1) S1 rv q⟩
    · exact q.elim
/-! ### tests -/
/-- by a bool -/
def br (c : Bool) (P Q : Prop) : Prop := match c with
  | true => P
  | false => Q
theorem br_i {c : Bool} {P Q : Prop} (h1 : c = true → P) (h2 : c = false → Q) : br c P Q := by
  cases c
  · exact h2 rfl
  · exact h1 rfl
theorem br_e {c : Bool} {P Q : Prop} (h : br c P Q) : if c = true then P else Q := by
  cases c <;> exact h
def vTest (we : VW) : Env → (Bool → Env → Prop) → XQ → Prop := fun γ Q X => we γ (fun r γ1 => peek r γ1 fun t => match t with
  | .bl b => Q b γ1
  | _ => False) X
section
variable {te : TE} {we : VW} [he : VE K B E te we]
theorem vtest_run {as : List Addr} {γ : Env} {σ : L2.St} {G H : Hp} {Q : Bool → Hp → Prop} {Qv : Bool → Env → Prop} {Xv : XQ} (S : StR K B as γ σ G H) (h : vTest we γ Qv Xv) (k : KontP K B as σ G rB Q Qv) (kx : KontX K B as σ G (E σ) Xv) : te σ H fun x H' => ∃ b, x = .bl b ∧ Q b H' := by
  refine he.run S h (fun r1 γ1 as1 v1 G1 H1 p1 g1 S1 rr1 q1 => ?_) kx
  obtain ⟨t, q, z⟩ := peek_ok S1 rr1 q1
  split at q
  · exact ⟨_, bl_any z, k _ _ _ _ _ _ p1 g1 S1 rfl q⟩
  · exact q.elim
instance : VT K B E (tTest te) (vTest we) := ⟨fun S h k kx => vtest_run S h k kx⟩
instance : VT K B E (tB te) (vTest we) := ⟨fun S h k kx => vtest_run S h k kx⟩
end
/-- the value's truth -/
def truQ (t : T) (Q : Bool → Prop) : Prop :=
  match t with
  | .bl b => Q b
  | .non => Q false
  | .int i => Q (i != 0)
  | .str y => small y.length ∧ Q ((y.length : Int) != 0)
  | .lst ts => Q (!ts.isEmpty)
  | .tup ts => Q (!ts.isEmpty)
  | .scr ts => Q (!ts.isEmpty)
  | .dk ks => Q (!ks.isEmpty)
  | _ => False
def tTru (K : PySem.W.Frag) (ta : TE) : TT := fun σ H Q => ta σ H fun x H' => ∃ k, TruV K x H' k ∧ Q k H'
theorem pt_tru {X : Cx} {a : Expr} {ta : TE} (ha : PE X a ta) (he : ∀ whole, isTrue a X.env whole = (do let v ← whole; standAt a.pos; holding [v] (truthy v))) : PT X a (tTru X.K ta) := pt_truth ha he
theorem RpAll.emp {G : Hp} {vs : List V} {ts : List T} (h : RpAll K G vs ts) : vs.isEmpty = ts.isEmpty := by cases h <;> rfl
theorem tru_rp {H : Hp} {v : V} {t : T} {Q : Bool → Prop} (h : truQ t Q) (r : Rp K H v t) : ∃ k, TruV K v H k ∧ Q k := by
  cases r with
  | non => exact ⟨_, rfl, h⟩
  | bl b => exact ⟨_, rfl, h⟩
  | int i => exact ⟨_, rfl, h⟩
  | str s o => exact ⟨_, ⟨h.1, rfl⟩, h.2⟩
  | lst e a => exact ⟨_, .inl ⟨_, SqL.of e, rfl⟩, by rw [a.emp]; exact h⟩
  | scr e a => exact ⟨_, .inl ⟨_, e, rfl⟩, by rw [a.emp]; exact h⟩
  | tup e a => exact ⟨_, .inr (.inl ⟨_, e.t, rfl⟩), by rw [a.emp]; exact h⟩
  | @dk a kvs ks e e2 a2 =>
    refine ⟨_, .inr (.inr ⟨_, e, rfl⟩), ?_⟩
    have : kvs.isEmpty = ks.isEmpty := by
      have := congrArg List.isEmpty e2
      simpa using this
    rw [this]
    exact h
  | _ => exact h.elim
def vTru (we : VW) : Env → (Bool → Env → Prop) → XQ → Prop := fun γ Q X => we γ (fun r γ1 => peek r γ1 fun t => truQ t fun b => Q b γ1) X
instance {te : TE} {we : VW} [he : VE K B E te we] : VT K B E (tTru K te) (vTru we) where
  run := fun {as γ σ G H Q Qv Xv} S h k kx => by
    refine he.run S h (fun r1 γ1 as1 v1 G1 H1 p1 g1 S1 rr1 q1 => ?_) kx
    obtain ⟨t, q, z⟩ := peek_rp S1 rr1 q1
    obtain ⟨b, h1, h2⟩ := tru_rp q z
    exact ⟨b, h1, k _ _ _ _ _ _ p1 g1 S1 rfl h2⟩
/-- and, or: in one (d told), or way by way -/
def vAnd (wt wu : Env → (Bool → Env → Prop) → XQ → Prop) : Env → (Bool → Env → Prop) → XQ → Prop := fun γ Q X => wt γ (fun c γ1 => (∃ d : Bool, (c = true → wu γ1 (fun b γ2 => b = d ∧ γ2 = γ1) X) ∧ Q (c && d) γ1) ∨ br c (wu γ1 Q X) (Q false γ1)) X
def vOr (wt wu : Env → (Bool → Env → Prop) → XQ → Prop) : Env → (Bool → Env → Prop) → XQ → Prop := fun γ Q X => wt γ (fun c γ1 => (∃ d : Bool, (c = false → wu γ1 (fun b γ2 => b = d ∧ γ2 = γ1) X) ∧ Q (c || d) γ1) ∨ br c (Q true γ1) (wu γ1 Q X)) X
def vNot (wt : Env → (Bool → Env → Prop) → XQ → Prop) : Env → (Bool → Env → Prop) → XQ → Prop := fun γ Q X => wt γ (fun c γ1 => Q (!c) γ1) X
section
variable {t u : TT} {wt wu : Env → (Bool → Env → Prop) → XQ → Prop} [ht : VT K B E t wt] [hu : VT K B E u wu]
instance : VT K B E (tAnd t u) (vAnd wt wu) where
  run := fun {as γ σ G H Q Qv Xv} S h k kx => by
    refine ht.run S h (fun b γ1 as1 b' G1 H1 p1 g1 S1 e q1 => ?_) kx
    cases e
    have k1 := k.mono p1 g1
    have kx1 := kx.mono p1 g1
    rcases q1 with ⟨d, q1, q2⟩ | q1
    · cases b
      · exact k1 _ _ _ _ _ _ (List.prefix_refl _) (Same.refl _) S1 rfl q2
      · refine hu.run S1 (q1 rfl) (fun b γ2 as2 b' G2 H2 p2 g2 S2 e q => ?_) kx1
        cases e
        obtain ⟨rfl, rfl⟩ := q
        exact k1 _ _ _ _ _ _ p2 g2 S2 rfl q2
    · cases b
      · exact k1 _ _ _ _ _ _ (List.prefix_refl _) (Same.refl _) S1 rfl q1
      · exact hu.run S1 q1 k1 kx1
instance : VT K B E (tOr t u) (vOr wt wu) where
  run := fun {as γ σ G H Q Qv Xv} S h k kx => by
    refine ht.run S h (fun b γ1 as1 b' G1 H1 p1 g1 S1 e q1 => ?_) kx
    cases e
    have k1 := k.mono p1 g1
    have kx1 := kx.mono p1 g1
    rcases q1 with ⟨d, q1, q2⟩ | q1
    · cases b
      · refine hu.run S1 (q1 rfl) (fun b γ2 as2 b' G2 H2 p2 g2 S2 e q => ?_) kx1
        cases e
        obtain ⟨rfl, rfl⟩ := q
        exact k1 _ _ _ _ _ _ p2 g2 S2 rfl q2
      · exact k1 _ _ _ _ _ _ (List.prefix_refl _) (Same.refl _) S1 rfl q2
    · cases b
      · exact hu.run S1 q1 k1 kx1
      · exact k1 _ _ _ _ _ _ (List.prefix_refl _) (Same.refl _) S1 rfl q1
instance : VT K B E (tNot t) (vNot wt) where
  run := fun {as γ σ G H Q Qv Xv} S h k kx => by
    refine ht.run S h (fun b γ1 as1 b' G1 H1 p1 g1 S1 e q1 => ?_) kx
    cases e
    exact k _ _ _ _ _ _ p1 g1 S1 rfl q1
end
/-- as values -/
def vAndV (wa wb : VW) : VW := fun γ Q X => wa γ (fun r γ1 => peek r γ1 fun t => match t with
  | .bl c => br c (wb γ1 Q X) (Q (.val (.bl false)) γ1)
  | _ => False) X
def vOrV (wa wb : VW) : VW := fun γ Q X => wa γ (fun r γ1 => peek r γ1 fun t => match t with
  | .bl c => br c (Q (.val (.bl true)) γ1) (wb γ1 Q X)
  | _ => False) X
def vNotV (wa : VW) : VW := fun γ Q X => wa γ (fun r γ1 => peek r γ1 fun t => match t with
  | .bl c => Q (.val (.bl (!c))) γ1
  | _ => False) X
def vNotT (wa : VW) : VW := fun γ Q X => wa γ (fun r γ1 => peek r γ1 fun t => truQ t fun c => Q (.val (.bl (!c))) γ1) X
def vIfE (wt : Env → (Bool → Env → Prop) → XQ → Prop) (wa wb : VW) : VW := fun γ Q X => wt γ (fun c γ1 => br c (wa γ1 Q X) (wb γ1 Q X)) X
section
variable {ta tb : TE} {wa wb : VW} [ha : VE K B E ta wa] [hb : VE K B E tb wb]
instance : VE K B E (tAndV ta tb) (vAndV wa wb) where
  run := fun {as γ σ G H Q Qv Xv} S h k kx => by
    refine ha.run S h (fun r1 γ1 as1 v1 G1 H1 p1 g1 S1 rr1 q1 => ?_) kx
    obtain ⟨t, q, z⟩ := peek_ok S1 rr1 q1
    split at q
    · rename_i c
      refine ⟨c, bl_any z, ?_⟩
      cases c
      · exact kval (k.mono p1 g1) S1 (.bl _) q
      · exact hb.run S1 q (k.mono p1 g1) (kx.mono p1 g1)
    · exact q.elim
instance : VE K B E (tOrV ta tb) (vOrV wa wb) where
  run := fun {as γ σ G H Q Qv Xv} S h k kx => by
    refine ha.run S h (fun r1 γ1 as1 v1 G1 H1 p1 g1 S1 rr1 q1 => ?_) kx
    obtain ⟨t, q, z⟩ := peek_ok S1 rr1 q1
    split at q
    · rename_i c
      refine ⟨c, bl_any z, ?_⟩
      cases c
      · exact hb.run S1 q (k.mono p1 g1) (kx.mono p1 g1)
      · exact kval (k.mono p1 g1) S1 (.bl _) q
    · exact q.elim
instance : VE K B E (tNotV ta) (vNotV wa) where
  run := fun {as γ σ G H Q Qv Xv} S h k kx => by
    refine ha.run S h (fun r1 γ1 as1 v1 G1 H1 p1 g1 S1 rr1 q1 => ?_) kx
    obtain ⟨t, q, z⟩ := peek_ok S1 rr1 q1
    split at q
    · exact ⟨_, bl_any z, kval (k.mono p1 g1) S1 (.bl _) q⟩
    · exact q.elim
instance : VE K B E (tNotT K ta) (vNotT wa) where
  run := fun {as γ σ G H Q Qv Xv} S h k kx => by
    refine ha.run S h (fun r1 γ1 as1 v1 G1 H1 p1 g1 S1 rr1 q1 => ?_) kx
    obtain ⟨t, q, z⟩ := peek_rp S1 rr1 q1
    obtain ⟨b, h1, h2⟩ := tru_rp q z
    exact ⟨b, h1, kval (k.mono p1 g1) S1 (.bl _) h2⟩
instance {tc : TT} {wc : Env → (Bool → Env → Prop) → XQ → Prop} [hc : VT K B E tc wc] : VE K B E (tIf tc ta tb) (vIfE wc wa wb) where
  run := fun {as γ σ G H Q Qv Xv} S h k kx => by
    refine hc.run S h (fun b γ1 as1 b' G1 H1 p1 g1 S1 e q1 => ?_) kx
    cases e
    cases b
    · exact hb.run S1 q1 (k.mono p1 g1) (kx.mono p1 g1)
    · exact ha.run S1 q1 (k.mono p1 g1) (kx.mono p1 g1)
/-- a op1 b op2 c -/
def vChain (wr wr' : Rf → Rf → VW) (wa wb wc : VW) : VW := fun γ Q X => wa γ (fun r1 γ1 => wb γ1 (fun r2 γ2 => wr r1 r2 γ2 (fun r3 γ3 => peek r3 γ3 fun t => match t with
  | .bl c => br c (wc γ3 (fun r4 γ4 => wr' r2 r4 γ4 Q X) X) (Q (.val (.bl false)) γ3)
  | _ => False) X) X) X
instance {r r' : R2} {wr wr' : Rf → Rf → VW} {tc : TE} {wc : VW} [hc : VE K B E tc wc] [hr : V2 K B E r wr] [hr' : V2 K B E r' wr'] : VE K B E (tChain r r' ta tb tc) (vChain wr wr' wa wb wc) where
  run := fun {as γ σ G H Q Qv Xv} S h k kx => by
    refine ha.run S h (fun r1 γ1 as1 v1 G1 H1 p1 g1 S1 rr1 q1 => ?_) kx
    refine hb.run S1 q1 (fun r2 γ2 as2 v2 G2 H2 p2 g2 S2 rr2 q2 => ?_) (kx.mono p1 g1)
    refine hr.run S2 (RR.mono rr1 p2 g2) rr2 q2 (fun r3 γ3 as3 v3 G3 H3 p3 g3 S3 rr3 q3 => ?_) ((kx.mono p1 g1).mono p2 g2)
    have k3 := ((k.mono p1 g1).mono p2 g2).mono p3 g3
    have kx3 := ((kx.mono p1 g1).mono p2 g2).mono p3 g3
    obtain ⟨t, q, z⟩ := peek_ok S3 rr3 q3
    split at q
    · rename_i c
      refine ⟨c, bl_any z, ?_⟩
      cases c
      · exact kval k3 S3 (.bl _) q
      · refine hc.run S3 q (fun r4 γ4 as4 v4 G4 H4 p4 g4 S4 rr4 q4 => ?_) kx3
        exact hr'.run S4 (RR.mono rr2 (p3.trans p4) (g3.trans g4)) rr4 q4 (k3.mono p4 g4) (kx3.mono p4 g4)
    · exact q.elim
end
/-- x is None, is True, is False .. -/
def rIsC (neg : Bool) (c : V) : R2 := fun x y H Q => y = c ∧ Q (.bl (nb neg (decide (x = c)))) H
end
end VL
set_option Elab.async false
set_option linter.all false
set_option maxRecDepth 100000
set_option maxHeartbeats 4000000
/-! readings over values: statements, methods of lists, loops, comprehensions -/
namespace VL
open PySem PySem.Spec PyProof.Rows L2 XR
structure VEnds where
  nx : Env → Prop
  rt : RQ
  bk : Env → Prop
  ct : Env → Prop
  ex : XQ
abbrev VSW := Env → VEnds → Prop
def KontS (K : PySem.W.Frag) (B : Bs) (as : List Addr) (G : Hp) (Q : L2.St → Hp → Prop) (Qv : Env → Prop) : Prop :=
  ∀ (γ' : Env) (as' : List Addr) (σ' : L2.St) (G' H' : Hp), as <+: as' → Same G G' → StR K B as' γ' σ' G' H' → Qv γ' → Q σ' H'
structure KontD (K : PySem.W.Frag) (B : Bs) (E : L2.St → XK) (as : List Addr) (G : Hp) (D : Ends) (Dv : VEnds) : Prop where
  nx : KontS K B as G D.nx Dv.nx
  bk : KontS K B as G D.bk Dv.bk
  ct : KontS K B as G D.ct Dv.ct
  rt : ∀ (σ' : L2.St), KontP K B as σ' G (rR K B) D.rt Dv.rt
  ex : ∀ (σ' : L2.St), KontX K B as σ' G (E σ') Dv.ex
theorem KontS.mono {K : PySem.W.Frag} {B : Bs} {as as1 : List Addr} {G G1 : Hp} {Q : L2.St → Hp → Prop} {Qv : Env → Prop} (k : KontS K B as G Q Qv) (p : as <+: as1) (g : Same G G1) : KontS K B as1 G1 Q Qv :=
  fun γ' as' σ' G' H' p' g' S q => k γ' as' σ' G' H' (p.trans p') (g.trans g') S q
theorem KontD.mono {K : PySem.W.Frag} {B : Bs} {E : L2.St → XK} {as as1 : List Addr} {G G1 : Hp} {D : Ends} {Dv : VEnds} (k : KontD K B E as G D Dv) (p : as <+: as1) (g : Same G G1) : KontD K B E as1 G1 D Dv :=
  ⟨k.nx.mono p g, k.bk.mono p g, k.ct.mono p g, fun σ => (k.rt σ).mono p g, fun σ => (k.ex σ).mono p g⟩
class VS (K : PySem.W.Frag) (B : Bs) (E : L2.St → XK) (t : TS) (w : outParam VSW) : Prop where
  run : ∀ {as : List Addr} {γ : Env} {σ : L2.St} {G H : Hp} {D : Ends} {Dv : VEnds}, StR K B as γ σ G H → w γ Dv → KontD K B E as G D Dv → t D σ H
/-- a target: the value is stored; is: the slots that it sets -/
class VG (K : PySem.W.Frag) (B : Bs) (E : L2.St → XK) (g : TG) (w : outParam (Rf → Env → (Env → Prop) → XQ → Prop)) (is : outParam (List Nat)) : Prop where
  run : ∀ {as : List Addr} {γ : Env} {σ : L2.St} {G H : Hp} {x : V} {r : Rf} {Q : L2.St → Hp → Prop} {Qv : Env → Prop} {Xv : XQ}, StR K B as γ σ G H → RR K B.ex as G r x → w r γ Qv Xv →
    (∀ (γ' : Env) (as' : List Addr) (σ' : L2.St) (G' H' : Hp), as <+: as' → Same G G' → StR K B as' γ' σ' G' H' → (∀ vs : List Nat, (∀ i ∈ is, i ∈ vs) → wipe σ' vs = wipe σ vs) → Qv γ' → Q σ' H') → KontX K B as σ G (E σ) Xv → g x σ H Q
class VGs (K : PySem.W.Frag) (B : Bs) (E : L2.St → XK) (g : TGs) (w : outParam (List Rf → Env → (Env → Prop) → XQ → Prop)) (is : outParam (List Nat)) : Prop where
  run : ∀ {as : List Addr} {γ : Env} {σ : L2.St} {G H : Hp} {xs : List V} {rs : List Rf} {Q : L2.St → Hp → Prop} {Qv : Env → Prop} {Xv : XQ}, StR K B as γ σ G H → RRs K B.ex as G rs xs → w rs γ Qv Xv →
    (∀ (γ' : Env) (as' : List Addr) (σ' : L2.St) (G' H' : Hp), as <+: as' → Same G G' → StR K B as' γ' σ' G' H' → (∀ vs : List Nat, (∀ i ∈ is, i ∈ vs) → wipe σ' vs = wipe σ vs) → Qv γ' → Q σ' H') → (∀ σ', KontX K B as σ' G (E σ') Xv) → g xs σ H Q
theorem wipe_set {σ : L2.St} {i : Nat} {x : Option V} : ∀ {vs : List Nat}, i ∈ vs → wipe (σ.set i x) vs = wipe σ vs := by
  intro vs
  induction vs with
  | nil => intro h; cases h
  | cons v vs ih =>
    intro h
    show (wipe (σ.set i x) vs).set v none = (wipe σ vs).set v none
    by_cases e : i ∈ vs
    · rw [ih e]
    · have hv : i = v := by
        rcases List.mem_cons.mp h with z | z
        · exact z
        · exact absurd z e
      subst hv
      apply List.ext_getElem?
      intro j
      by_cases hj : j = i
      · subst hj
        by_cases hl : j < σ.length
        · rw [List.getElem?_set_self (by rw [wipe_length, List.length_set]; exact hl), List.getElem?_set_self (by rw [wipe_length]; exact hl)]
        · rw [List.getElem?_eq_none (by rw [List.length_set, wipe_length, List.length_set]; omega), List.getElem?_eq_none (by rw [List.length_set, wipe_length]; omega)]
      · rw [List.getElem?_set_ne (Ne.symm hj), List.getElem?_set_ne (Ne.symm hj)]
        by_cases hm : j ∈ vs
        · have aux : ∀ (τ : L2.St), (wipe τ vs)[j]? = if j < τ.length then some none else none := fun τ => by
            clear ih h e
            induction vs with
            | nil => cases hm
            | cons w ws ih2 =>
              show ((wipe τ ws).set w none)[j]? = _
              by_cases hw : j = w
              · subst hw
                by_cases hl : j < τ.length
                · rw [List.getElem?_set_self (by rw [wipe_length]; exact hl), if_pos hl]
                · rw [List.getElem?_eq_none (by rw [List.length_set, wipe_length]; omega), if_neg hl]
              · rw [List.getElem?_set_ne (Ne.symm hw)]
                rcases List.mem_cons.mp hm with z | z
                · exact absurd z hw
                · exact ih2 z
          rw [aux, aux, List.length_set]
        · rw [wipe_out hm, wipe_out hm, List.getElem?_set_ne (Ne.symm hj)]
section
variable {K : PySem.W.Frag} {B : Bs} {E : L2.St → XK}
/-! ### targets -/
def vgName (i : Nat) : Rf → Env → (Env → Prop) → XQ → Prop := fun r γ Q _ => Q (γ.set i r)
instance {i : Nat} : VG K B E (gName i) (vgName i) [i] where
  run := fun {as γ σ G H x r Q Qv Xv} S rr h k _ => k _ _ _ G H (List.prefix_refl _) (Same.refl _) (S.store rr i) (fun vs hv => wipe_set (hv i List.mem_cons_self)) h
def vgNil : List Rf → Env → (Env → Prop) → XQ → Prop := fun rs γ Q _ => match rs with
  | [] => Q γ
  | _ => False
def vgCons (wg : Rf → Env → (Env → Prop) → XQ → Prop) (wr : List Rf → Env → (Env → Prop) → XQ → Prop) : List Rf → Env → (Env → Prop) → XQ → Prop := fun rs γ Q X => match rs with
  | r :: rs => wg r γ (fun γ1 => wr rs γ1 Q X) X
  | _ => False
instance : VGs K B E gNil vgNil [] where
  run := fun {as γ σ G H xs rs Q Qv Xv} S rr h k _ => by
    unfold vgNil at h
    split at h
    · cases rr; exact ⟨rfl, k _ _ _ _ _ (List.prefix_refl _) (Same.refl _) S (fun _ _ => rfl) h⟩
    · exact h.elim
instance {g : TG} {u : TGs} {wg : Rf → Env → (Env → Prop) → XQ → Prop} {wr : List Rf → Env → (Env → Prop) → XQ → Prop} {is js : List Nat} [hg : VG K B E g wg is] [hr : VGs K B E u wr js] : VGs K B E (gCons g u) (vgCons wg wr) (is ++ js) where
  run := fun {as γ σ G H xs rs Q Qv Xv} S rr h k kx => by
    unfold vgCons at h
    split at h
    · cases rr with | cons a b =>
      refine ⟨_, _, rfl, hg.run S a h (fun γ1 as1 σ1 G1 H1 p1 g1 S1 w1 q1 => ?_) (kx σ)⟩
      refine hr.run S1 (RRs.mono p1 g1 b) q1 (fun γ2 as2 σ2 G2 H2 p2 g2 S2 w2 q2 => ?_) fun σ' => (kx σ').mono p1 g1
      exact k _ _ _ _ _ (p1.trans p2) (g1.trans g2) S2 (fun vs hv => (w2 vs fun i hi => hv i (List.mem_append_right _ hi)).trans (w1 vs fun i hi => hv i (List.mem_append_left _ hi))) q2
    · exact h.elim
/-- (a, b, ..) = a tuple -/
def vgTup (n : Nat) (wr : List Rf → Env → (Env → Prop) → XQ → Prop) : Rf → Env → (Env → Prop) → XQ → Prop := fun r γ Q X => peek r γ fun t => match t with
  | .tup ts => ts.length = n ∧ wr (ts.map Rf.val) γ Q X
  | _ => False
theorem RpAll.rrs {G : Hp} {as : List Addr} {ex : Addr × Value × Option Addr} : ∀ {vs : List V} {ts : List T}, RpAll K G vs ts → RRs K ex as G (ts.map Rf.val) vs
  | _, _, .nil => .nil
  | _, _, .cons a b => .cons a (RpAll.rrs b)
class VGT (K : PySem.W.Frag) (B : Bs) (E : L2.St → XK) (g : TGs) (w : outParam (List Rf → Env → (Env → Prop) → XQ → Prop)) (is : outParam (List Nat)) : Prop where
  run : ∀ {as : List Addr} {γ : Env} {σ : L2.St} {G H : Hp} {xs : List V} {rs : List Rf} {Q : L2.St → Hp → Prop} {Qv : Env → Prop} {Xv : XQ}, StR K B as γ σ G H → RRs K B.ex as G rs xs → w rs γ Qv Xv →
    (∀ (γ' : Env) (as' : List Addr) (σ' : L2.St) (G' H' : Hp), as <+: as' → Same G G' → StR K B as' γ' σ' G' H' → (∀ vs : List Nat, (∀ i ∈ is, i ∈ vs) → wipe σ' vs = wipe σ vs) → Qv γ' → Q σ' H') → g xs σ H Q
instance : VGT K B E gNil vgNil [] where
  run := fun {as γ σ G H xs rs Q Qv Xv} S rr h k => by
    unfold vgNil at h
    split at h
    · cases rr; exact ⟨rfl, k _ _ _ _ _ (List.prefix_refl _) (Same.refl _) S (fun _ _ => rfl) h⟩
    · exact h.elim
instance {i : Nat} {u : TGs} {wr : List Rf → Env → (Env → Prop) → XQ → Prop} {js : List Nat} [hr : VGT K B E u wr js] : VGT K B E (gCons (gName i) u) (vgCons (vgName i) wr) (i :: js) where
  run := fun {as γ σ G H xs rs Q Qv Xv} S rr h k => by
    unfold vgCons at h
    split at h
    · cases rr with | cons a b =>
      refine ⟨_, _, rfl, ?_⟩
      refine hr.run (S.store a i) b h (fun γ2 as2 σ2 G2 H2 p2 g2 S2 w2 q2 => ?_)
      exact k _ _ _ _ _ p2 g2 S2 (fun vs hv => (w2 vs fun i hi => hv i (List.mem_cons_of_mem _ hi)).trans (wipe_set (hv i List.mem_cons_self))) q2
    · exact h.elim
instance {n : Nat} {u : TGs} {wr : List Rf → Env → (Env → Prop) → XQ → Prop} {is : List Nat} [hr : VGT K B E u wr is] : VG K B E (gTup K n u) (vgTup n wr) is where
  run := fun {as γ σ G H x r Q Qv Xv} S rr h k _ => by
    obtain ⟨t, q, z⟩ := peek_ok S rr h
    split at q
    · obtain ⟨a, xs, rfl, sq, rp⟩ := tup_any z
      exact ⟨a, xs, rfl, SqT.same sq.t S.vw, rp.length.trans q.1, hr.run S rp.rrs q.2 k⟩
    · exact q.elim
/-- o[i] = .., of an open list -/
def setQ (ro : Rf) (n : Int) (t : T) (γ : Env) (Q : Env → Prop) : Prop :=
  match ro with
  | .ref k => match nth γ.mem k with
    | some (.mu (.lst ts)) => isS (setL ts n t) fun us => Q (γ.put k (.mu (.lst us)))
    | _ => False
  | _ => False
def vgSub (wo wi : VW) : Rf → Env → (Env → Prop) → XQ → Prop := fun r γ Q X => wo γ (fun ro γ1 => wi γ1 (fun ri γ2 => peek ri γ2 fun ti => match ti with
  | .int n => toT r γ2 fun t γ3 => setQ ro n t γ3 Q
  | _ => False) X) X
instance {to ti : TE} {wo wi : VW} [ho : VE K B E to wo] [hi : VE K B E ti wi] : VG K B E (gSub to ti rSetL) (vgSub wo wi) [] where
  run := fun {as γ σ G H x r Q Qv Xv} S rr h k kx => by
    refine ho.run S h (fun r1 γ1 as1 v1 G1 H1 p1 g1 S1 rr1 q1 => ?_) kx
    refine hi.run S1 q1 (fun r2 γ2 as2 v2 G2 H2 p2 g2 S2 rr2 q2 => ?_) (kx.mono p1 g1)
    obtain ⟨t, q, z⟩ := peek_ok S2 rr2 q2
    split at q
    · have ei := int_any z
      obtain ⟨t, γ3, G3, g3, S3, rp, q⟩ := toT_ok S2 (RR.mono rr (p1.trans p2) (g1.trans g2)) q
      have rr3 := RR.mono rr1 p2 (g2.trans g3)
      unfold setQ at q
      split at q
      · rename_i kk
        obtain ⟨a, ea, e3⟩ := rr3
        simp only [nth_eq] at q
        split at q
        · rename_i ts e
          obtain ⟨us, e0, q⟩ := isS_e q
          obtain ⟨j, hj, rfl⟩ := setL_ix e0
          obtain ⟨_, acc, hacc, rpa⟩ := S3.mem _ a _ ea e
          refine ⟨a, acc, _, j, e3, ei, hacc, by rw [rpa.length]; exact hj, ?_⟩
          have S4 := S3.write (o := .lst (acc.set j x)) (t := .lst (ts.set j t)) e ea ⟨_, upd_same, rpa.set rp j⟩
          exact k _ _ _ _ _ (p1.trans p2) ((g1.trans g2).trans g3) S4 (fun _ _ => rfl) q
        · exact q.elim
      · exact q.elim
    · exact q.elim
/-! ### statements -/
def vSeq (wt wu : VSW) : VSW := fun γ D => wt γ { D with nx := fun γ1 => wu γ1 D }
instance {t u : TS} {wt wu : VSW} [ht : VS K B E t wt] [hu : VS K B E u wu] : VS K B E (tSeq t u) (vSeq wt wu) where
  run := fun {as γ σ G H D Dv} S h k => ht.run S h ⟨fun γ1 as1 σ1 G1 H1 p1 g1 S1 q1 => hu.run S1 q1 (k.mono p1 g1), k.bk, k.ct, k.rt, k.ex⟩
def vNext : VSW := fun γ D => D.nx γ
def vBreak : VSW := fun γ D => D.bk γ
def vCont : VSW := fun γ D => D.ct γ
instance : VS K B E tNext vNext := ⟨fun S h k => k.nx _ _ _ _ _ (List.prefix_refl _) (Same.refl _) S h⟩
instance : VS K B E tBreak vBreak := ⟨fun S h k => k.bk _ _ _ _ _ (List.prefix_refl _) (Same.refl _) S h⟩
instance : VS K B E tCont vCont := ⟨fun S h k => k.ct _ _ _ _ _ (List.prefix_refl _) (Same.refl _) S h⟩
def vDrop (we : VW) : VSW := fun γ D => we γ (fun _ γ1 => D.nx γ1) D.ex
def vRet (we : VW) : VSW := fun γ D => we γ D.rt D.ex
def vRetN : VSW := fun γ D => D.rt (.val .non) γ
def vAsg (we : VW) (wg : Rf → Env → (Env → Prop) → XQ → Prop) : VSW := fun γ D => we γ (fun r γ1 => wg r γ1 D.nx D.ex) D.ex
section
variable {te : TE} {we : VW} [he : VE K B E te we]
instance : VS K B E (tDrop te) (vDrop we) where
  run := fun {as γ σ G H D Dv} S h k => he.run S h (fun r γ1 as1 v G1 H1 p1 g1 S1 _ q1 => k.nx _ _ _ _ _ p1 g1 S1 q1) (k.ex σ)
instance : VS K B E (tRet te) (vRet we) where
  run := fun {as γ σ G H D Dv} S h k => he.run S h (k.rt σ) (k.ex σ)
instance : VS K B E tRetN vRetN where
  run := fun {as γ σ G H D Dv} S h k => k.rt σ (.val .non) _ _ _ _ _ (List.prefix_refl _) (Same.refl _) S Rp.non h
instance {g : TG} {wg : Rf → Env → (Env → Prop) → XQ → Prop} {is : List Nat} [hg : VG K B E g wg is] : VS K B E (tAsg te g) (vAsg we wg) where
  run := fun {as γ σ G H D Dv} S h k => by
    refine he.run S h (fun r γ1 as1 v G1 H1 p1 g1 S1 rr q1 => ?_) (k.ex σ)
    exact hg.run S1 rr q1 (fun γ2 as2 σ2 G2 H2 p2 g2 S2 _ q2 => k.nx _ _ _ _ _ (p1.trans p2) (g1.trans g2) S2 q2) ((k.ex σ).mono p1 g1)
end
def vIf (wc : Env → (Bool → Env → Prop) → XQ → Prop) (wt wu : VSW) : VSW := fun γ D => wc γ (fun c γ1 => br c (wt γ1 D) (wu γ1 D)) D.ex
instance {c : TT} {t u : TS} {wc : Env → (Bool → Env → Prop) → XQ → Prop} {wt wu : VSW} [hc : VT K B E c wc] [ht : VS K B E t wt] [hu : VS K B E u wu] : VS K B E (tIfS c t u) (vIf wc wt wu) where
  run := fun {as γ σ G H D Dv} S h k => by
    refine hc.run S h (fun b γ1 as1 b' G1 H1 p1 g1 S1 e q1 => ?_) (k.ex σ)
    cases e
    cases b
    · exact hu.run S1 q1 (k.mono p1 g1)
    · exact ht.run S1 q1 (k.mono p1 g1)
/-- a, b = x, y -/
def vPar (i j : Nat) (wa : Env → (List Rf → Env → Prop) → XQ → Prop) : VSW := fun γ D => wa γ (fun rs γ1 => match rs with
  | [r, s] => D.nx ((γ1.set i r).set j s)
  | _ => False) D.ex
def vAug (i : Nat) (f : Int → Int → Int) (we : VW) : VSW := fun γ D => match nth γ.sl i with
  | some (some (.val (.int x))) => we γ (fun r γ1 => peek r γ1 fun t => match t with
    | .int y => D.nx (γ1.set i (.val (.int (f x y))))
    | _ => False) D.ex
  | _ => False
instance {i : Nat} {f : Int → Int → Int} {te : TE} {we : VW} [he : VE K B E te we] : VS K B E (tAug i te (ipI f)) (vAug i f we) where
  run := fun {as γ σ G H D Dv} S h k => by
    unfold vAug at h
    rw [nth_eq] at h
    split at h
    · rename_i x e
      obtain ⟨v, e1, e2⟩ := S.sl i _ e
      have e2 : Rp K G v (.int x) := e2
      cases e2
      refine ⟨_, e1, ?_⟩
      refine he.run S h (fun r γ1 as1 v G1 H1 p1 g1 S1 rr q1 => ?_) (k.ex σ)
      obtain ⟨t, q, z⟩ := peek_ok S1 rr q1
      split at q
      · exact ⟨_, _, rfl, int_any z, k.nx _ _ _ _ _ p1 g1 (S1.store (r := .val (.int _)) (Rp.int _) i) q⟩
      · exact q.elim
    · exact h.elim
/-- behind this statement R holds -/
structure CutI (n0 : Nat) (fst : (Env → Prop) → Prop) (snd : Env → Prop) : Prop where
  ex : ∃ R : Env → Prop, fst (fun γ1 => ∃ γ2, Le n0 γ1 γ2 ∧ R γ2) ∧ ∀ γ2, R γ2 → snd γ2
def vCut (wt wu : VSW) : VSW := fun γ D => CutI γ.mem.length (fun N => wt γ { D with nx := N }) fun γ2 => wu γ2 D
instance {t u : TS} {wt wu : VSW} [ht : VS K B E t wt] [hu : VS K B E u wu] : VS K B E (Evl.tCut t u) (vCut wt wu) where
  run := fun {as γ σ G H D Dv} S h k => by
    obtain ⟨⟨R, h1, h2⟩⟩ := h
    refine ⟨fun σ' H' => ∃ as' γ' G', as <+: as' ∧ Same G G' ∧ StR K B as' γ' σ' G' H' ∧ R γ', ?_, ?_⟩
    · refine ht.run S h1 ⟨fun γ1 as1 σ1 G1 H1 p1 g1 S1 q1 => ?_, k.bk, k.ct, k.rt, k.ex⟩
      obtain ⟨γ2, le, r⟩ := q1
      obtain ⟨as2, G2, p2, g2, S2⟩ := StR.le le S1 p1 S.mlen
      exact ⟨as2, γ2, G2, p2, g1.trans g2, S2, r⟩
    · rintro σ' H' ⟨as', γ', G', p, g, S', r⟩
      exact hu.run S' (h2 γ' r) (k.mono p g)
/-! ### methods of open lists -/
def mtQ (r : Rf) (γ : Env) (Q : Nat → List T → Prop) : Prop :=
  match r with
  | .ref k => match nth γ.mem k with
    | some (.mu (.lst ts)) => Q k ts
    | _ => False
  | _ => False
section
variable {as : List Addr} {γ : Env} {σ : L2.St} {G H : Hp} {x : V} {r : Rf}
theorem mtQ_ok {Q : Nat → List T → Prop} (S : StR K B as γ σ G H) (rr : RR K B.ex as G r x) (h : mtQ r γ Q) : ∃ k ts a acc, r = .ref k ∧ γ.mem[k]? = some (.mu (.lst ts)) ∧ as[k]? = some a ∧ x = .ref a ∧ H a = some (.lst acc) ∧ RpAll K G acc ts ∧ Q k ts := by
  unfold mtQ at h
  split at h
  · rename_i k
    obtain ⟨a, ea, rfl⟩ := rr
    simp only [nth_eq] at h
    split at h
    · rename_i ts e
      obtain ⟨_, acc, hacc, rpa⟩ := S.mem _ a _ ea e
      exact ⟨k, ts, a, acc, rfl, e, ea, rfl, hacc, rpa, h⟩
    · exact h.elim
  · exact h.elim
end
def vBM (wr : Rf → List Rf → VW) (wo : VW) (wa : Env → (List Rf → Env → Prop) → XQ → Prop) : VW := fun γ Q X => wo γ (fun r γ1 => peek r γ1 (fun t => seqT t fun b _ => b = true) ∧ wa γ1 (fun rs γ2 => wr r rs γ2 Q X) X) X
def vBM0 (wr : Rf → List Rf → VW) (wo : VW) : VW := fun γ Q X => wo γ (fun r γ1 => peek r γ1 (fun t => seqT t fun b _ => b = true) ∧ wr r [] γ1 Q X) X
section
variable {r : V → List V → Hp → VK → Prop} {wr : Rf → List Rf → VW} {to : TE} {wo : VW} [ho : VE K B E to wo] [hr : VM K B E r wr]
theorem tyV_lst {as : List Addr} {γ : Env} {σ : L2.St} {G H : Hp} {x : V} {r : Rf} (S : StR K B as γ σ G H) (rr : RR K B.ex as G r x) (h : peek r γ (fun t => seqT t fun b _ => b = true)) : tyV K "list" x H := by
  obtain ⟨b, ts, a, acc, rfl, sq, _, rfl⟩ := peek_seq S rr h
  exact .inl ⟨rfl, acc, sq⟩
instance {t : TA} {wa : Env → (List Rf → Env → Prop) → XQ → Prop} [ha : VA K B E t wa] : VE K B E (tBM K "list" r to t) (vBM wr wo wa) where
  run := fun {as γ σ G H Q Qv Xv} S h k kx => by
    refine ho.run S h (fun r1 γ1 as1 v1 G1 H1 p1 g1 S1 rr1 q1 => ?_) kx
    obtain ⟨ty, q1⟩ := q1
    refine ⟨tyV_lst S1 rr1 ty, ?_⟩
    refine ha.run S1 q1 (fun rs γ2 as2 vs G2 H2 p2 g2 S2 rr2 q2 => ?_) (kx.mono p1 g1)
    exact hr.run S2 (RR.mono rr1 p2 g2) rr2 q2 ((k.mono p1 g1).mono p2 g2) ((kx.mono p1 g1).mono p2 g2)
instance : VE K B E (tBM0 K "list" r to) (vBM0 wr wo) where
  run := fun {as γ σ G H Q Qv Xv} S h k kx => by
    refine ho.run S h (fun r1 γ1 as1 v1 G1 H1 p1 g1 S1 rr1 q1 => ?_) kx
    obtain ⟨ty, q1⟩ := q1
    exact ⟨tyV_lst S1 rr1 ty, hr.run S1 rr1 .nil q1 (k.mono p1 g1) (kx.mono p1 g1)⟩
end
def arg1 (rs : List Rf) (Q : Rf → Prop) : Prop := match rs with
  | [r] => Q r
  | _ => False
def arg0 (rs : List Rf) (Q : Prop) : Prop := match rs with
  | [] => Q
  | _ => False
/-- append: the item is settled first, then the list is looked up -/
def vAppend : Rf → List Rf → VW := fun r rs γ Q _ => arg1 rs fun y => toT y γ fun t γ1 => mtQ r γ1 fun k ts => ts.length < sizeLine ∧ Q (.val .non) (γ1.put k (.mu (.lst (ts ++ [t]))))
theorem put_non {as : List Addr} {γ : Env} {σ : L2.St} {G H : Hp} {k : Nat} {a : Addr} {m0 t : T} {o : HO} {Q : VK} {Qv : RQ} (kk : KontP K B as σ G (rR K B) Q Qv) (S : StR K B as γ σ G H) (e : γ.mem[k]? = some (.mu m0)) (ea : as[k]? = some a) (q : MutR K G (L2.upd H a o) a t) (h : Qv (.val .non) (γ.put k (.mu t))) : Q .non (L2.upd H a o) :=
  kval kk (S.write e ea q) .non h
theorem put_lst {as : List Addr} {γ : Env} {σ : L2.St} {G H : Hp} {k : Nat} {a : Addr} {m0 : T} {us : List T} {ys : List V} {Q : VK} {Qv : RQ} (kk : KontP K B as σ G (rR K B) Q Qv) (S : StR K B as γ σ G H) (e : γ.mem[k]? = some (.mu m0)) (ea : as[k]? = some a) (q : RpAll K G ys us) (h : Qv (.val .non) (γ.put k (.mu (.lst us)))) : Q .non (L2.upd H a (.lst ys)) :=
  put_non (t := .lst us) kk S e ea ⟨_, upd_same, q⟩ h
instance : VM K B E rAppend vAppend where
  run := fun {as γ σ G H x rx vs rs Q Qv Xv} S rr rrs h kk _ => by
    unfold vAppend arg1 at h
    split at h
    · cases rrs with | cons a b =>
      cases b
      obtain ⟨t, γ1, G1, g1, S1, rp, h⟩ := toT_ok S a h
      obtain ⟨k, ts, a, acc, rfl, e, ea, rfl, hacc, rpa, h1, h2⟩ := mtQ_ok S1 (RR.mono rr (List.prefix_refl _) g1) h
      exact ⟨a, acc, _, rfl, rfl, hacc, by rw [rpa.length]; exact h1, put_lst (kk.mono (List.prefix_refl _) g1) S1 e ea (rpa.snoc rp) h2⟩
    · exact h.elim
def vInsert : Rf → List Rf → VW := fun r rs γ Q _ => match rs with
  | [ri, y] => peek ri γ fun ti => match ti with
    | .int i => toT y γ fun t γ1 => mtQ r γ1 fun k ts => (ts.length < sizeLine ∧ 0 ≤ i ∧ i < 2 ^ 63) ∧ Q (.val .non) (γ1.put k (.mu (.lst (ts.take i.toNat ++ [t] ++ ts.drop i.toNat))))
    | _ => False
  | _ => False
def rInsertU : V → List V → Hp → VK → Prop := fun x vs H Q => ∃ (l : Addr) (xs : List V) (i : Int) (y : V), x = .ref l ∧ vs = [.int i, y] ∧ H l = some (.lst xs) ∧ xs.length < sizeLine ∧ 0 ≤ i ∧ i < 2 ^ 63 ∧ Q .non (L2.upd H l (.lst (xs.take i.toNat ++ [y] ++ xs.drop i.toNat)))
theorem mt_insertU {X : Cx} : MtR X "list.insert" rInsertU := mt_insert
instance : VM K B E rInsertU vInsert where
  run := fun {as γ σ G H x rx vs rs Q Qv Xv} S rr rrs h kk _ => by
    unfold vInsert at h
    split at h
    · cases rrs with | cons a0 b =>
      cases b with | cons a b =>
      cases b
      obtain ⟨ti, h, zi⟩ := peek_ok S a0 h
      split at h
      · have ei := int_any zi
        obtain ⟨t, γ1, G1, g1, S1, rp, h⟩ := toT_ok S a h
        obtain ⟨k, ts, a, acc, rfl, e, ea, rfl, hacc, rpa, h1, h2⟩ := mtQ_ok S1 (RR.mono rr (List.prefix_refl _) g1) h
        exact ⟨a, acc, _, _, rfl, by rw [ei], hacc, by rw [rpa.length]; exact h1.1, h1.2.1, h1.2.2, put_lst (kk.mono (List.prefix_refl _) g1) S1 e ea (((rpa.drop _).append ((RpAll.cons rp .nil).append (rpa.take _)))) h2⟩
      · exact h.elim
    · exact h.elim
def vPop : Rf → List Rf → VW := fun r rs γ Q _ => arg0 rs (mtQ r γ fun k ts => isS (popL ts) fun p => Q (.val p.1) (γ.put k (.mu (.lst p.2))))
instance : VM K B E rPop vPop where
  run := fun {as γ σ G H x rx vs rs Q Qv Xv} S rr rrs h kk _ => by
    unfold vPop arg0 at h
    split at h
    · cases rrs
      obtain ⟨k, ts, a, acc, rfl, e, ea, rfl, hacc, rpa, h⟩ := mtQ_ok S rr h
      obtain ⟨⟨t, us⟩, e0, h2⟩ := isS_e h
      obtain ⟨h1, rfl⟩ := popL_eq e0
      obtain ⟨v, hv, rv⟩ := rpa.get' h1
      exact ⟨a, acc, v, rfl, rfl, hacc, by rw [rpa.length]; exact hv, kval kk (S.write (t := .lst ts.dropLast) e ea ⟨_, upd_same, rpa.dropLast⟩) rv h2⟩
    · exact h.elim
def vPopAt : Rf → List Rf → VW := fun r rs γ Q _ => arg1 rs fun ri => peek ri γ fun ti => match ti with
  | .int i => mtQ r γ fun k ts => (0 ≤ i ∧ i < 2 ^ 63) ∧ isS (popN ts i.toNat) fun p => Q (.val p.1) (γ.put k (.mu (.lst p.2)))
  | _ => False
instance : VM K B E rPopAt vPopAt where
  run := fun {as γ σ G H x rx vs rs Q Qv Xv} S rr rrs h kk _ => by
    unfold vPopAt arg1 at h
    split at h
    · cases rrs with | cons a0 b =>
      cases b
      obtain ⟨ti, h, zi⟩ := peek_ok S a0 h
      split at h
      · rename_i i
        have ei := int_any zi
        obtain ⟨k, ts, a, acc, rfl, e, ea, rfl, hacc, rpa, ⟨b1, b2⟩, h⟩ := mtQ_ok S rr h
        obtain ⟨⟨t, us⟩, e0, h2⟩ := isS_e h
        rw [popN_eq] at e0
        obtain ⟨h1, rfl⟩ : ts[i.toNat]? = some t ∧ ts.eraseIdx i.toNat = us := by
          cases e9 : ts[i.toNat]? with
          | none => rw [e9] at e0; cases e0
          | some x => rw [e9] at e0; cases e0; exact ⟨rfl, rfl⟩
        have hlt : i.toNat < ts.length := (List.getElem?_eq_some_iff.mp h1).1
        have h0 : seqIndex? i ts.length = some i.toNat := seq_ix b1 (by omega)
        obtain ⟨v, hv, rv⟩ := rpa.get' h1
        have j := i.toNat
        exact ⟨a, acc, _, i.toNat, v, rfl, by rw [ei], hacc, by omega, b2, by rw [rpa.length]; exact h0, hv, kval kk (S.write (t := .lst (ts.eraseIdx i.toNat)) e ea ⟨_, upd_same, rpa.eraseIdx _⟩) rv h2⟩
      · exact h.elim
    · exact h.elim
def vReverse : Rf → List Rf → VW := fun r rs γ Q _ => arg0 rs (mtQ r γ fun k ts => Q (.val .non) (γ.put k (.mu (.lst ts.reverse))))
instance : VM K B E rReverse vReverse where
  run := fun {as γ σ G H x rx vs rs Q Qv Xv} S rr rrs h kk _ => by
    unfold vReverse arg0 at h
    split at h
    · cases rrs
      obtain ⟨k, ts, a, acc, rfl, e, ea, rfl, hacc, rpa, h2⟩ := mtQ_ok S rr h
      exact ⟨a, acc, rfl, rfl, hacc, put_lst kk S e ea (rpa.reverse) h2⟩
    · exact h.elim
def vClear : Rf → List Rf → VW := fun r rs γ Q _ => arg0 rs (mtQ r γ fun k ts => Q (.val .non) (γ.put k (.mu (.lst []))))
instance : VM K B E rClear vClear where
  run := fun {as γ σ G H x rx vs rs Q Qv Xv} S rr rrs h kk _ => by
    unfold vClear arg0 at h
    split at h
    · cases rrs
      obtain ⟨k, ts, a, acc, rfl, e, ea, rfl, hacc, rpa, h2⟩ := mtQ_ok S rr h
      exact ⟨a, acc, rfl, rfl, hacc, put_lst kk S e ea (.nil) h2⟩
    · exact h.elim
/-- extend by a list -/
def vExtend : Rf → List Rf → VW := fun r rs γ Q _ => arg1 rs fun y => peek y γ fun t => match t with
  | .lst us => mtQ r γ fun k ts => ts.length + us.length ≤ sizeLine ∧ Q (.val .non) (γ.put k (.mu (.lst (ts ++ us))))
  | _ => False
instance : VM K B E rExtend vExtend where
  run := fun {as γ σ G H x rx vs rs Q Qv Xv} S rr rrs h kk _ => by
    unfold vExtend arg1 at h
    split at h
    · cases rrs with | cons a0 b =>
      cases b
      obtain ⟨ti, h, zi⟩ := peek_ok S a0 h
      split at h
      · obtain ⟨b, ys, rfl, e2, p2⟩ := lst_any S zi
        obtain ⟨k, ts, a, acc, rfl, e, ea, rfl, hacc, rpa, h1, h2⟩ := mtQ_ok S rr h
        exact ⟨a, b, acc, ys, rfl, rfl, hacc, e2, by rw [rpa.length, p2.length]; exact h1, put_lst kk S e ea (p2.append rpa) h2⟩
      · exact h.elim
    · exact h.elim
/-- index: the first equal one -/
def vIndex : Rf → List Rf → VW := fun r rs γ Q _ => arg1 rs fun y => peek y γ fun u => peek r γ fun t => match t with
  | .lst ts => (okD u = true ∧ okD (.lst ts) = true) ∧ ∃ (j : Nat) (z : T), ts[j]? = some z ∧ eqT z u = true ∧ (∀ (m : Nat) (z' : T), m < j → ts[m]? = some z' → eqT z' u = false) ∧ Q (.val (.int (j : Nat))) γ
  | .scr ts => (okD u = true ∧ okD (.lst ts) = true) ∧ ∃ (j : Nat) (z : T), ts[j]? = some z ∧ eqT z u = true ∧ (∀ (m : Nat) (z' : T), m < j → ts[m]? = some z' → eqT z' u = false) ∧ Q (.val (.int (j : Nat))) γ
  | _ => False
theorem toDs_at (ts : List T) (j : Nat) : (toDs ts)[j]? = ts[j]?.map toD := by rw [toDs_map, List.getElem?_map]
instance : VM K B E (rIndexD K) vIndex where
  run := fun {as γ σ G H x rx vs rs Q Qv Xv} S rr rrs h kk _ => by
    unfold vIndex arg1 at h
    split at h
    · cases rrs with | @cons _ v1 _ _ a0 b =>
      cases b
      obtain ⟨u, h, z0⟩ := peek_rp S a0 h
      obtain ⟨t, h, z⟩ := peek_rp S rr h
      have fin : ∀ (ts : List T) (a : Addr), x = .ref a → Dp K H (.ref a) (.list (toDs ts)) → SeqAt.shaped (.list (toDs ts)) = true → (okD u = true ∧ okD (.lst ts) = true) ∧ (∃ (j : Nat) (z : T), ts[j]? = some z ∧ eqT z u = true ∧ (∀ (m : Nat) (z' : T), m < j → ts[m]? = some z' → eqT z' u = false) ∧ Qv (.val (.int (j : Nat))) γ) → rIndexD K x [v1] H Q := by
        rintro ts a rfl hd hs ⟨⟨o1, o2⟩, j, z, e1, e2, e3, q⟩
        refine ⟨a, _, toD u, toDs ts, j, toD z, rfl, rfl, hd, z0.dp (okD_data o1), hs, z0.shaped o1, by rw [toDs_at, e1]; rfl, e2, fun m z' hm e => ?_, kval kk S (.int _) q⟩
        rw [toDs_at] at e
        cases et : ts[m]? with
        | none => rw [et] at e; cases e
        | some z2 =>
          rw [et] at e
          cases e
          exact e3 m z2 hm et
      split at h
      · rename_i ts
        have o2 := h.1.2
        have d := z.dp (okD_data o2)
        have s := z.shaped o2
        cases z with | lst ea rp => exact fin ts _ rfl d s h
      · rename_i ts
        have o2 : okD (.scr ts) = true := h.1.2
        have d := z.dp (okD_data o2)
        have s := z.shaped o2
        cases z with | scr ea rp => exact fin ts _ rfl d s h
      · exact h.elim
    · exact h.elim
end
end VL
set_option Elab.async false
set_option linter.all false
set_option maxRecDepth 100000
set_option maxHeartbeats 4000000
/-! readings over values: loops, comprehensions -/
namespace VL
open PySem PySem.Spec PyProof.Rows L2 XR
/-- what is walked: settled items; an open list as it stands -/
inductive Src where
  | fix (ts : List T) | live (k : Nat) (ts : List T)
def Src.ts : Src → List T
  | .fix ts => ts
  | .live _ ts => ts
def Src.on (s : Src) (γ : Env) : Prop := match s with
  | .fix _ => True
  | .live k ts => nth γ.mem k = some (.mu (.lst ts))
def SrcOk (K : PySem.W.Frag) (B : Bs) (as0 : List Addr) (G0 : Hp) (J : It) (src : Src) : Prop :=
  ∀ {as : List Addr} {γ : Env} {σ : L2.St} {G H : Hp}, as0 <+: as → Same G0 G → StR K B as γ σ G H → src.on γ → (∀ i, i < src.ts.length → J.go i H) ∧ J.stop src.ts.length H ∧
    ∀ (i : Nat) (x : V) (H' : Hp), i < src.ts.length → J.yld i H x H' → ∃ (G' : Hp) (t : T), src.ts[i]? = some t ∧ Same G G' ∧ StR K B as γ σ G' H' ∧ Rp K G' x t
class VI (K : PySem.W.Frag) (B : Bs) (E : L2.St → XK) (t : TI) (w : outParam (Env → (Src → Env → Prop) → XQ → Prop)) : Prop where
  run : ∀ {as : List Addr} {γ : Env} {σ : L2.St} {G H : Hp} {R : It → Hp → Prop} {Qv : Src → Env → Prop} {Xv : XQ}, StR K B as γ σ G H → w γ Qv Xv →
    (∀ (src : Src) (γ' : Env) (as' : List Addr) (G' H' : Hp) (J : It), as <+: as' → Same G G' → StR K B as' γ' σ G' H' → SrcOk K B as' G' J src → Qv src γ' → R J H') → KontX K B as σ G (E σ) Xv → t σ H R
/-! ### a list or a tuple -/
def iDyn (K : PySem.W.Frag) (tl : TE) : TI := fun σ H R => tl σ H fun x H1 => ∃ a, x = .ref a ∧ (((∃ xs, SqL K H1 a xs) ∧ R (Itl K a) H1) ∨ ((∃ xs, SqT K H1 a xs) ∧ R (Itt K a) H1))
def iDynL (K : PySem.W.Frag) (tl : TE) : TI := iDyn K tl
section
variable {X : Cx} {tg : Expr}
theorem pi_dyn {l : Expr} {tl : TE} (hl : PE X l tl) : PI X tg l (iDyn X.K tl) := by
  refine ⟨fun pins s σ H R I h => ?_⟩
  refine thn (hl.run pins s σ H _ I h) fun v s1 ⟨x, H1, I1, r1, q1⟩ => ?_
  obtain ⟨a, e, q1⟩ := q1
  subst e
  cases r1
  rcases q1 with ⟨⟨xs, hq⟩, q⟩ | ⟨⟨xs, hq⟩, q⟩
  · obtain ⟨its, rv, p, hz⟩ := I1.list hq
    refine wpAny_pyIter_list p.isList ?_
    refine ⟨s1.heap.objs.size, [s1.heap.objs.size], _, _, H1, rfl, I1.kept (t' := s1.toks) fun b o e => Heap.get?_push_of_some _ e, turn_list a _, ⟨_, Heap.get?_push_size _ rfl, rfl, rfl⟩, fun b hb => ?_, q⟩
    have e : b = s1.heap.objs.size := by simpa using hb
    subst e
    exact I1.fpOk (Nat.le_refl _) (I1.hok.fresh (Nat.le_refl _))
  · obtain ⟨its, rv, p, hz⟩ := I1.tuple hq
    refine wpAny_pyIter_tuple (show s1.heap.IsTuple a its.toArray from p) ?_
    refine ⟨s1.heap.objs.size, [s1.heap.objs.size], _, _, H1, rfl, I1.kept (t' := s1.toks) fun b o e => Heap.get?_push_of_some _ e, turn_tuple a _, ⟨_, Heap.get?_push_size _ rfl, rfl, rfl⟩, fun b hb => ?_, q⟩
    have e : b = s1.heap.objs.size := by simpa using hb
    subst e
    exact I1.fpOk (Nat.le_refl _) (I1.hok.fresh (Nat.le_refl _))
theorem pi_dynL {l : Expr} {tl : TE} (hl : PE X l tl) : PI X tg l (iDynL X.K tl) := pi_dyn hl
end
section
variable {K : PySem.W.Frag} {B : Bs} {E : L2.St → XK}
section
variable {as0 : List Addr} {G0 : Hp} {a : Addr} {acc : List V} {ts : List T}
theorem src_list (e : SqL K G0 a acc) (rp : RpAll K G0 acc ts) : SrcOk K B as0 G0 (Itl K a) (.fix ts) := fun {as γ σ G H} _ g S _ => by
  have hs : SqL K H a acc := SqL.same e (g.trans S.vw)
  have hl : acc.length = ts.length := rp.length
  refine ⟨fun i hi => ⟨acc, acc[i]'(by rw [hl]; exact hi), hs, List.getElem?_eq_getElem _⟩, ⟨acc, hs, Nat.le_of_eq hl⟩, fun i x H' hi y => ?_⟩
  obtain ⟨rfl, y⟩ := y
  obtain ⟨t, et, rt⟩ := rp.get (y acc hs)
  exact ⟨G, t, et, Same.refl _, S, rt.mono g⟩
theorem src_tup (e : SqT K G0 a acc) (rp : RpAll K G0 acc ts) : SrcOk K B as0 G0 (Itt K a) (.fix ts) := fun {as γ σ G H} _ g S _ => by
  have hs : SqT K H a acc := SqT.same e (g.trans S.vw)
  have hl : acc.length = ts.length := rp.length
  refine ⟨fun i hi => ⟨acc, acc[i]'(by rw [hl]; exact hi), hs, List.getElem?_eq_getElem _⟩, ⟨acc, hs, Nat.le_of_eq hl⟩, fun i x H' hi y => ?_⟩
  obtain ⟨rfl, y⟩ := y
  obtain ⟨t, et, rt⟩ := rp.get (y acc hs)
  exact ⟨G, t, et, Same.refl _, S, rt.mono g⟩
theorem src_live {k : Nat} (ea : as0[k]? = some a) : SrcOk K B as0 G0 (Itl K a) (.live k ts) := fun {as γ σ G H} p g S on => by
  have on : nth γ.mem k = some (.mu (.lst ts)) := on
  rw [nth_eq] at on
  obtain ⟨_, acc, hacc, rp⟩ := S.mem k a _ (pre_get p ea) on
  have hs : SqL K H a acc := SqL.of hacc
  have hl : acc.length = ts.length := rp.length
  refine ⟨fun i hi => ⟨acc, acc[i]'(by rw [hl]; exact hi), hs, List.getElem?_eq_getElem _⟩, ⟨acc, hs, Nat.le_of_eq hl⟩, fun i x H' hi y => ?_⟩
  obtain ⟨rfl, y⟩ := y
  obtain ⟨t, et, rt⟩ := rp.get (y acc hs)
  exact ⟨G, t, et, Same.refl _, S, rt⟩
end
def vIter (wl : VW) : Env → (Src → Env → Prop) → XQ → Prop := fun γ Q X => wl γ (fun r γ1 => toT r γ1 fun t γ2 => seqT t fun _ ts => Q (.fix ts) γ2) X
instance {tl : TE} {wl : VW} [hl : VE K B E tl wl] : VI K B E (iDyn K tl) (vIter wl) where
  run := fun {as γ σ G H R Qv Xv} S h k kx => by
    refine hl.run S h (fun r1 γ1 as1 v1 G1 H1 p1 g1 S1 rr1 q1 => ?_) kx
    obtain ⟨t, γ2, G2, g2, S2, rp, q⟩ := toT_ok S1 rr1 q1
    cases rp with
    | lst e a => exact ⟨_, rfl, .inl ⟨⟨_, SqL.of (S2.vw _ _ e)⟩, k _ _ _ _ _ _ p1 (g1.trans g2) S2 (src_list (SqL.of e) a) q⟩⟩
    | scr e a => exact ⟨_, rfl, .inl ⟨⟨_, SqL.same e S2.vw⟩, k _ _ _ _ _ _ p1 (g1.trans g2) S2 (src_list e a) q⟩⟩
    | tup e a => exact ⟨_, rfl, .inr ⟨⟨_, SqT.same e.t S2.vw⟩, k _ _ _ _ _ _ p1 (g1.trans g2) S2 (src_tup e.t a) q⟩⟩
    | _ => exact q.elim
def vIterL (wl : VW) : Env → (Src → Env → Prop) → XQ → Prop := fun γ Q X => wl γ (fun r γ1 => mtQ r γ1 fun k ts => Q (.live k ts) γ1) X
instance {tl : TE} {wl : VW} [hl : VE K B E tl wl] : VI K B E (iDynL K tl) (vIterL wl) where
  run := fun {as γ σ G H R Qv Xv} S h k kx => by
    refine hl.run S h (fun r1 γ1 as1 v1 G1 H1 p1 g1 S1 rr1 q1 => ?_) kx
    obtain ⟨kk, ts, a, acc, rfl, e, ea, rfl, hacc, rpa, q⟩ := mtQ_ok S1 rr1 q1
    exact ⟨a, rfl, .inl ⟨⟨acc, SqL.of hacc⟩, k _ _ _ _ _ _ p1 g1 S1 (src_live ea) q⟩⟩
/-! ### ranges -/
def rngT (lo : Int) (n : Nat) : List T := (List.range n).map fun i => .int (lo + (i : Nat))
theorem rngT_at {lo : Int} {n i : Nat} {t : T} (h : (rngT lo n)[i]? = some t) : i < n ∧ t = .int (lo + (i : Nat)) := by
  unfold rngT at h
  have hl : i < n := by
    rcases Nat.lt_or_ge i n with z | z
    · exact z
    · rw [List.getElem?_eq_none (by simpa using z)] at h; cases h
  rw [List.getElem?_map, List.getElem?_range hl] at h
  exact ⟨hl, (Option.some.inj h).symm⟩
theorem rngT_len {lo : Int} {n : Nat} : (rngT lo n).length = n := by simp [rngT]
theorem src_rng {as0 : List Addr} {G0 : Hp} {lo : Int} {n : Nat} : SrcOk K B as0 G0 (Itr lo n) (.fix (rngT lo n)) := fun {as γ σ G H} _ g S _ => by
  have hl : (Src.fix (rngT lo n)).ts.length = n := rngT_len
  rw [hl]
  refine ⟨fun i hi => hi, Nat.le_refl _, fun i x H' hi y => ?_⟩
  obtain ⟨rfl, rfl⟩ := y
  refine ⟨G, .int (lo + (i : Nat)), ?_, Same.refl _, S, .int _⟩
  show (rngT lo n)[i]? = _
  unfold rngT
  rw [List.getElem?_map, List.getElem?_range hi]
  rfl
def intsQ (rs : List Rf) (γ : Env) (Q : List Int → Prop) : Prop := match rs with
  | [] => Q []
  | r :: rs => peek r γ fun t => match t with
    | .int i => intsQ rs γ fun is => Q (i :: is)
    | _ => False
theorem intsQ_ok {as : List Addr} {γ : Env} {σ : L2.St} {G H : Hp} (S : StR K B as γ σ G H) : ∀ {rs : List Rf} {vs : List V} {Q : List Int → Prop}, RRs K B.ex as G rs vs → intsQ rs γ Q → ∃ is : List Int, vs = is.map V.int ∧ Q is
  | _, _, Q, .nil, h => ⟨[], rfl, h⟩
  | _, _, Q, .cons a b, h => by
    obtain ⟨t, q, z⟩ := peek_ok S a h
    split at q
    · obtain ⟨is, rfl, q⟩ := intsQ_ok S b q
      exact ⟨_ :: is, by rw [int_any z]; rfl, q⟩
    · exact q.elim
def vRng1 (wa : Env → (List Rf → Env → Prop) → XQ → Prop) : Env → (Src → Env → Prop) → XQ → Prop := fun γ Q X => wa γ (fun rs γ1 => intsQ rs γ1 fun is => match is with
  | [j] => (-(2 ^ 62) ≤ j ∧ j < 2 ^ 62) ∧ Q (.fix (rngT 0 j.toNat)) γ1
  | _ => False) X
def vRng2 (wa : Env → (List Rf → Env → Prop) → XQ → Prop) : Env → (Src → Env → Prop) → XQ → Prop := fun γ Q X => wa γ (fun rs γ1 => intsQ rs γ1 fun is => match is with
  | [i, j] => (-(2 ^ 62) ≤ i ∧ i < 2 ^ 62 ∧ -(2 ^ 62) ≤ j ∧ j < 2 ^ 62) ∧ Q (.fix (rngT i (j - i).toNat)) γ1
  | _ => False) X
section
variable {ta : TA} {wa : Env → (List Rf → Env → Prop) → XQ → Prop} [ha : VA K B E ta wa]
instance : VI K B E (iRng1 ta) (vRng1 wa) where
  run := fun {as γ σ G H R Qv Xv} S h k kx => by
    refine ha.run S h (fun rs γ1 as1 vs G1 H1 p1 g1 S1 rr1 q1 => ?_) kx
    obtain ⟨is, rfl, q⟩ := intsQ_ok S1 rr1 q1
    split at q
    · exact ⟨_, rfl, q.1.1, q.1.2, k _ _ _ _ _ _ p1 g1 S1 src_rng q.2⟩
    · exact q.elim
instance : VI K B E (iRng2 ta) (vRng2 wa) where
  run := fun {as γ σ G H R Qv Xv} S h k kx => by
    refine ha.run S h (fun rs γ1 as1 vs G1 H1 p1 g1 S1 rr1 q1 => ?_) kx
    obtain ⟨is, rfl, q⟩ := intsQ_ok S1 rr1 q1
    split at q
    · exact ⟨_, _, rfl, q.1, k _ _ _ _ _ _ p1 g1 S1 src_rng q.2⟩
    · exact q.elim
end
/-! ### enumerate, zip -/
def enumT : Int → List T → List T
  | _, [] => []
  | n, t :: r => .tup [.int n, t] :: enumT (n + 1) r
theorem enumT_len : ∀ (n : Int) (ts : List T), (enumT n ts).length = ts.length
  | _, [] => rfl
  | n, _ :: r => congrArg (· + 1) (enumT_len (n + 1) r)
theorem enumT_at : ∀ (n : Int) (ts : List T) (i : Nat), (enumT n ts)[i]? = ts[i]?.map fun t => .tup [.int (n + (i : Nat)), t]
  | _, [], i => by simp [enumT]
  | n, t :: r, 0 => by simp [enumT]
  | n, t :: r, i + 1 => by
    show (enumT (n + 1) r)[i]? = _
    rw [enumT_at (n + 1) r i]
    have e : n + 1 + (i : Int) = n + ((i + 1 : Nat) : Int) := by omega
    rw [e]; rfl
def zipT : List T → List T → List T
  | a :: as, b :: bs => .tup [a, b] :: zipT as bs
  | _, _ => []
theorem zipT_len : ∀ (as bs : List T), (zipT as bs).length = min as.length bs.length
  | [], _ => by simp [zipT]
  | _ :: _, [] => by simp [zipT]
  | a :: as, b :: bs => by
    show (zipT as bs).length + 1 = min (as.length + 1) (bs.length + 1)
    rw [zipT_len as bs]; omega
theorem zipT_at : ∀ (as bs : List T) (i : Nat) {a b : T}, as[i]? = some a → bs[i]? = some b → (zipT as bs)[i]? = some (.tup [a, b])
  | x :: as, y :: bs, 0, a, b, h1, h2 => by cases h1; cases h2; rfl
  | x :: as, y :: bs, i + 1, a, b, h1, h2 => zipT_at as bs i h1 h2
  | [], _, _, _, _, h1, _ => by cases h1
  | _ :: _, [], _, _, _, _, h2 => by cases h2
theorem zipT_inv {as bs : List T} {i : Nat} {t : T} (h : (zipT as bs)[i]? = some t) : ∃ a b, as[i]? = some a ∧ bs[i]? = some b ∧ t = .tup [a, b] := by
  have hl : i < (zipT as bs).length := (List.getElem?_eq_some_iff.mp h).1
  rw [zipT_len] at hl
  have h1 : as[i]? = some as[i] := List.getElem?_eq_getElem (by omega)
  have h2 : bs[i]? = some bs[i] := List.getElem?_eq_getElem (by omega)
  refine ⟨_, _, h1, h2, ?_⟩
  rw [zipT_at as bs i h1 h2] at h
  exact (Option.some.inj h).symm
theorem src_pair {as0 : List Addr} {G0 : Hp} {J : It} {n : Nat} {xs ys : Nat → Option V} {ts : List T} (w : Walk J n (Same G0) (YPair xs ys)) (hn : ts.length = n)
    (hp : ∀ (i : Nat) (x y : V), i < n → xs i = some x → ys i = some y → ∃ a b, ts[i]? = some (.tup [a, b]) ∧ Rp K G0 x a ∧ Rp K G0 y b) : SrcOk K B as0 G0 J (.fix ts) := fun {as γ σ G H} _ g S _ => by
  have hl : (Src.fix ts).ts.length = n := hn
  rw [hl]
  have gv := g.trans S.vw
  refine ⟨fun i hi => w.goes i H hi gv, w.stops H gv, fun i x H' hi y => ?_⟩
  obtain ⟨Tp, u, v, rfl, hT, rfl, h1, h2⟩ := w.yields i H x H' hi gv y
  obtain ⟨a, b, e, ra, rb⟩ := hp i u v hi h1 h2
  obtain ⟨S', g'⟩ := S.lay (o := .tup [u, v]) hT
  exact ⟨_, _, e, g', S', .tup (.inl upd_same) (.cons (ra.mono (g.trans g')) (.cons (rb.mono (g.trans g')) .nil))⟩
def vEnum (wa : Env → (List Rf → Env → Prop) → XQ → Prop) : Env → (Src → Env → Prop) → XQ → Prop := fun γ Q X => wa γ (fun rs γ1 => arg1 rs fun r => toT r γ1 fun t γ2 => seqT t fun _ ts => Q (.fix (enumT 0 ts)) γ2) X
def vZip (wa : Env → (List Rf → Env → Prop) → XQ → Prop) : Env → (Src → Env → Prop) → XQ → Prop := fun γ Q X => wa γ (fun rs γ1 => match rs with
  | [r, r2] => toT r γ1 fun t γ2 => toT r2 γ2 fun t2 γ3 => seqT t fun _ ts => seqT t2 fun _ us => Q (.fix (zipT ts us)) γ3
  | _ => False) X
theorem seq_rp {G : Hp} {v : V} {t : T} {Q : Bool → List T → Prop} (rp : Rp K G v t) (h : seqT t Q) : ∃ b ts a acc, v = .ref a ∧ SqA K G a acc ∧ RpAll K G acc ts ∧ Q b ts := by
  cases rp with
  | lst e a => exact ⟨true, _, _, _, rfl, .inl (SqL.of e), a, h⟩
  | scr e a => exact ⟨true, _, _, _, rfl, .inl e, a, h⟩
  | tup e a => exact ⟨false, _, _, _, rfl, .inr e.t, a, h⟩
  | _ => exact h.elim
section
variable {ta : TA} {wa : Env → (List Rf → Env → Prop) → XQ → Prop} [ha : VA K B E ta wa]
instance : VI K B E (iEnumQ K ta) (vEnum wa) where
  run := fun {as γ σ G H R Qv Xv} S h k kx => by
    refine ha.run S h (fun rs γ1 as1 vs G1 H1 p1 g1 S1 rr1 q1 => ?_) kx
    unfold arg1 at q1
    split at q1
    · cases rr1 with | cons a0 b =>
      cases b
      obtain ⟨t, γ2, G2, g2, S2, rp, q⟩ := toT_ok S1 a0 q1
      obtain ⟨b, ts, a, acc, rfl, sq, rpa, q⟩ := seq_rp rp q
      refine ⟨a, acc, G2, rfl, sq, S2.vw, fun J w => k _ _ _ _ _ _ p1 (g1.trans g2) S2 (src_pair w (by rw [enumT_len]; exact rpa.length.symm) fun i x y hi h1 h2 => ?_) q⟩
      cases h1
      obtain ⟨t, et, rt⟩ := rpa.get h2
      exact ⟨_, t, by rw [enumT_at, et, Int.zero_add]; rfl, .int _, rt⟩
    · exact q1.elim
instance : VI K B E (iZipQ K ta) (vZip wa) where
  run := fun {as γ σ G H R Qv Xv} S h k kx => by
    refine ha.run S h (fun rs γ1 as1 vs G1 H1 p1 g1 S1 rr1 q1 => ?_) kx
    split at q1
    · cases rr1 with | cons a0 b =>
      cases b with | cons a1 b =>
      cases b
      obtain ⟨t, γ2, G2, g2, S2, rp, q⟩ := toT_ok S1 a0 q1
      obtain ⟨t2, γ3, G3, g3, S3, rp2, q⟩ := toT_ok S2 (RR.mono a1 (List.prefix_refl _) g2) q
      obtain ⟨b, ts, a, acc, rfl, sq, rpa, q⟩ := seq_rp (rp.mono g3) q
      obtain ⟨b2, us, a2, acc2, rfl, sq2, rpa2, q⟩ := seq_rp rp2 q
      refine ⟨a, a2, acc, acc2, G3, rfl, sq, sq2, S3.vw, fun J w => k _ _ _ _ _ _ p1 ((g1.trans g2).trans g3) S3 (src_pair w (by rw [zipT_len, rpa.length, rpa2.length]) fun i x y hi h1 h2 => ?_) q⟩
      obtain ⟨t, et, rt⟩ := rpa.get h1
      obtain ⟨t2, et2, rt2⟩ := rpa2.get h2
      exact ⟨t, t2, zipT_at _ _ _ et et2, rt, rt2⟩
    · exact q1.elim
end
/-! ### for -/
/-- I: the invariant by the turn -/
structure ForI (src : Src) (n0 : Nat) (γ1 : Env) (step : T → Env → (Env → Prop) → Prop) (done : Env → Prop) : Prop where
  ex : ∃ I : Nat → Env → Prop, (∃ γ2, Le n0 γ1 γ2 ∧ I 0 γ2) ∧ (∀ i γ2, I i γ2 → src.on γ2) ∧
    (∀ i t γ2, src.ts[i]? = some t → I i γ2 → step t γ2 fun γ4 => ∃ γ5, Le n0 γ4 γ5 ∧ I (i + 1) γ5) ∧ ∀ γ2, I src.ts.length γ2 → done γ2
def vFor (wi : Env → (Src → Env → Prop) → XQ → Prop) (wg : Rf → Env → (Env → Prop) → XQ → Prop) (wb : VSW) : VSW := fun γ D => wi γ (fun src γ1 =>
  ForI src γ1.mem.length γ1 (fun t γ2 N => wg (.val t) γ2 (fun γ3 => wb γ3 { D with nx := N, ct := N, bk := D.nx }) D.ex) D.nx) D.ex
instance {wi : TI} {g : TG} {tb : TS} {vi : Env → (Src → Env → Prop) → XQ → Prop} {vg : Rf → Env → (Env → Prop) → XQ → Prop} {is : List Nat} {vb : VSW} [hi : VI K B E wi vi] [hg : VG K B E g vg is] [hb : VS K B E tb vb] : VS K B E (tFor wi g tb) (vFor vi vg vb) where
  run := fun {as γ σ G H D Dv} S h k => by
    refine hi.run S h (fun src γ1 as1 G1 H1 J p1 g1 S1 ok q1 => ?_) (k.ex σ)
    obtain ⟨⟨I, ⟨γ0, le0, i0⟩, on, step, done⟩⟩ := q1
    obtain ⟨as0, G0, pp0, gg0, SS0⟩ := StR.le le0 S1 (List.prefix_refl _) S1.mlen
    refine ⟨fun i m σ' H' => m = src.ts.length - i ∧ i ≤ src.ts.length ∧ ∃ as' γ' G', as1 <+: as' ∧ Same G1 G' ∧ StR K B as' γ' σ' G' H' ∧ I i γ', ⟨_, rfl, Nat.zero_le _, as0, γ0, G0, pp0, gg0, SS0, i0⟩, ?_⟩
    rintro i m σ' H' ⟨rfl, hi', as', γ', G', p', g', S', inv⟩
    obtain ⟨go, stop, yld⟩ := ok p' g' S' (on i γ' inv)
    by_cases hlt : i < src.ts.length
    · refine .inr ⟨go i hlt, fun σ'' H'' => i + 1 ≤ src.ts.length ∧ ∃ as'' γ'' G'', as1 <+: as'' ∧ Same G1 G'' ∧ StR K B as'' γ'' σ'' G'' H'' ∧ I (i + 1) γ'', fun σ'' H'' q => ⟨_, by omega, rfl, q.1, q.2⟩, fun x H'' hy => ?_⟩
      obtain ⟨G2, t, et, g2, S2, rp⟩ := yld i x H'' hlt hy
      have k2 : KontD K B E as' G2 D Dv := (k.mono p1 g1).mono p' (g'.trans g2)
      refine hg.run S2 (r := .val t) rp (step i t γ' et inv) (fun γ3 as3 σ3 G3 H3 p3 g3 S3 _ q3 => ?_) (k2.ex σ')
      have k3 := k2.mono p3 g3
      have again : KontS K B as3 G3 (fun σ'' H'' => i + 1 ≤ src.ts.length ∧ ∃ as'' γ'' G'', as1 <+: as'' ∧ Same G1 G'' ∧ StR K B as'' γ'' σ'' G'' H'' ∧ I (i + 1) γ'') (fun γ4 => ∃ γ5, Le γ1.mem.length γ4 γ5 ∧ I (i + 1) γ5) := by
        rintro γ4 as4 σ4 G4 H4 p4 g4 S4 ⟨γ5, le5, i5⟩
        obtain ⟨as5, G5, p5, g5, S5⟩ := StR.le le5 S4 ((p'.trans p3).trans p4) S1.mlen
        exact ⟨hlt, as5, γ5, G5, p5, (((g'.trans g2).trans g3).trans g4).trans g5, S5, i5⟩
      exact hb.run S3 q3 ⟨again, k3.nx, again, k3.rt, k3.ex⟩
    · have e : i = src.ts.length := by omega
      subst e
      exact .inl ⟨stop, k.nx _ _ _ _ _ (p1.trans p') (g1.trans g') S' (done γ' inv)⟩
/-! ### while -/
structure WhileI (n0 : Nat) (γ1 : Env) (step : Env → (Env → Prop) → Prop) : Prop where
  ex : ∃ I : Nat → Env → Prop, (∃ m γ2, Le n0 γ1 γ2 ∧ I m γ2) ∧ ∀ m γ2, I m γ2 → step γ2 fun γ4 => ∃ γ5 m', Le n0 γ4 γ5 ∧ m' < m ∧ I m' γ5
def vWhile (wc : Env → (Bool → Env → Prop) → XQ → Prop) (wb : VSW) : VSW := fun γ D => WhileI γ.mem.length γ fun γ2 N => wc γ2 (fun c γ3 => br c (wb γ3 { D with nx := N, ct := N, bk := D.nx }) (D.nx γ3)) D.ex
instance {c : TT} {tb : TS} {wc : Env → (Bool → Env → Prop) → XQ → Prop} {vb : VSW} [hc : VT K B E c wc] [hb : VS K B E tb vb] : VS K B E (tWhile c tb) (vWhile wc vb) where
  run := fun {as γ σ G H D Dv} S h k => by
    obtain ⟨⟨I, ⟨m0, γ0, le0, i0⟩, step⟩⟩ := h
    obtain ⟨as0, G0, pp0, gg0, SS0⟩ := StR.le le0 S (List.prefix_refl _) S.mlen
    refine ⟨fun m σ' H' => ∃ as' γ' G', as <+: as' ∧ Same G G' ∧ StR K B as' γ' σ' G' H' ∧ I m γ', ⟨m0, as0, γ0, G0, pp0, gg0, SS0, i0⟩, ?_⟩
    rintro m σ' H' ⟨as', γ', G', p', g', S', inv⟩
    have k2 : KontD K B E as' G' D Dv := k.mono p' g'
    refine hc.run S' (step m γ' inv) (fun b γ3 as3 b' G3 H3 p3 g3 S3 e q3 => ?_) (k2.ex σ')
    cases e
    have k3 := k2.mono p3 g3
    cases b with
    | false => exact k3.nx _ _ _ _ _ (List.prefix_refl _) (Same.refl _) S3 q3
    | true =>
      refine ⟨fun σ'' H'' => ∃ m', m' < m ∧ ∃ as'' γ'' G'', as <+: as'' ∧ Same G G'' ∧ StR K B as'' γ'' σ'' G'' H'' ∧ I m' γ'', fun _ _ q => q, ?_⟩
      have again : KontS K B as3 G3 (fun σ'' H'' => ∃ m', m' < m ∧ ∃ as'' γ'' G'', as <+: as'' ∧ Same G G'' ∧ StR K B as'' γ'' σ'' G'' H'' ∧ I m' γ'') (fun γ4 => ∃ γ5 m', Le γ.mem.length γ4 γ5 ∧ m' < m ∧ I m' γ5) := by
        rintro γ4 as4 σ4 G4 H4 p4 g4 S4 ⟨γ5, m', le5, hm, i5⟩
        obtain ⟨as5, G5, p5, g5, S5⟩ := StR.le le5 S4 ((p'.trans p3).trans p4) S.mlen
        exact ⟨m', hm, as5, γ5, G5, p5, ((g'.trans g3).trans g4).trans g5, S5, i5⟩
      exact hb.run S3 q3 ⟨again, k3.nx, again, k3.rt, k3.ex⟩
/-! ### comprehensions -/
class MemL (i : Nat) (vs : List Nat) : Prop where
  h : i ∈ vs
class SubL (is vs : List Nat) : Prop where
  h : ∀ i ∈ is, i ∈ vs
instance memL0 {i : Nat} {vs : List Nat} : MemL i (i :: vs) := ⟨List.mem_cons_self⟩
instance memL1 {i v : Nat} {vs : List Nat} [h : MemL i vs] : MemL i (v :: vs) := ⟨List.mem_cons_of_mem _ h.h⟩
instance subL0 {vs : List Nat} : SubL [] vs := ⟨fun _ h => by cases h⟩
instance subL1 {i : Nat} {is vs : List Nat} [h : MemL i vs] [k : SubL is vs] : SubL (i :: is) vs := ⟨fun j hj => by
  rcases List.mem_cons.mp hj with rfl | hj
  · exact h.h
  · exact k.h j hj⟩
def Env.wipe (γ : Env) : List Nat → Env
  | [] => γ
  | v :: vs => (Env.wipe γ vs).unset v
theorem StR.wipe {as : List Addr} {γ : Env} {σ : L2.St} {G H : Hp} (S : StR K B as γ σ G H) : ∀ vs : List Nat, StR K B as (γ.wipe vs) σ G H
  | [] => S
  | v :: vs => (StR.wipe S vs).unset v
theorem Env.wipe_len (γ : Env) : ∀ vs : List Nat, (γ.wipe vs).sl.length = γ.sl.length
  | [] => rfl
  | v :: vs => by show ((γ.wipe vs).sl.set v none).length = _; rw [List.length_set, Env.wipe_len γ vs]
theorem Env.wipe_none (γ : Env) {i : Nat} {r : Rf} : ∀ {vs : List Nat}, (γ.wipe vs).sl[i]? = some (some r) → i ∉ vs
  | [], _ => by simp
  | v :: vs, h => by
    have h : ((γ.wipe vs).sl.set v none)[i]? = some (some r) := h
    by_cases e : v = i
    · subst e
      rcases Nat.lt_or_ge v (γ.wipe vs).sl.length with z | z
      · rw [List.getElem?_set_self z] at h; cases h
      · rw [List.getElem?_eq_none (by simpa using z)] at h; cases h
    · rw [List.getElem?_set_ne e] at h
      have := Env.wipe_none γ h
      exact fun hm => (List.mem_cons.mp hm).elim (fun z => e z.symm) this
theorem wipe_wipe (σ : L2.St) : ∀ vs : List Nat, wipe (wipe σ vs) vs = wipe σ vs := fun vs => by
  apply List.ext_getElem?
  intro j
  by_cases hm : j ∈ vs
  · have aux : ∀ (ws : List Nat) (τ : L2.St), j ∈ ws → (wipe τ ws)[j]? = if j < τ.length then some none else none := fun ws => by
      induction ws with
      | nil => intro τ h; cases h
      | cons w ws ih2 =>
        intro τ h
        show ((wipe τ ws).set w none)[j]? = _
        by_cases hw : j = w
        · subst hw
          by_cases hl : j < τ.length
          · rw [List.getElem?_set_self (by rw [wipe_length]; exact hl), if_pos hl]
          · rw [List.getElem?_eq_none (by rw [List.length_set, wipe_length]; omega), if_neg hl]
        · rw [List.getElem?_set_ne (Ne.symm hw)]
          exact ih2 τ ((List.mem_cons.mp h).elim (fun z => absurd z hw) fun z => z)
    rw [aux vs _ hm, aux vs _ hm, wipe_length]
  · rw [wipe_out hm]
/-- the slots that are told nothing of may hold anything -/
theorem StR.rewipe {as : List Addr} {γ : Env} {σ σ' : L2.St} {G H : Hp} {vs : List Nat} (S : StR K B as γ σ G H) (h : L2.wipe σ' vs = L2.wipe σ vs) (hn : ∀ (i : Nat) (r : Rf), γ.sl[i]? = some (some r) → i ∉ vs) : StR K B as γ σ' G H := by
  refine S.slots ?_ fun i r e => ?_
  · have := congrArg List.length h
    rw [wipe_length, wipe_length] at this
    exact this
  · have e2 : (L2.wipe σ' vs)[i]? = (L2.wipe σ vs)[i]? := by rw [h]
    rw [wipe_out (hn i r e), wipe_out (hn i r e)] at e2
    exact e2
def noX : XQ := fun _ _ => False
theorem kxno {K : PySem.W.Frag} {B : Bs} {as : List Addr} {σ : L2.St} {G : Hp} {E : XK} : KontX K B as σ G E noX := fun _ _ _ _ _ _ _ _ _ _ h => h.elim
def appQ (k : Nat) (t : T) (γ : Env) (Q : Env → Prop) : Prop := match nth γ.mem k with
  | some (.mu (.lst ts)) => ts.length < sizeLine ∧ Q (γ.put k (.mu (.lst (ts ++ [t]))))
  | _ => False
structure LcI (src : Src) (γ1 : Env) (vs : List Nat) (step : T → Env → (Env → Prop) → Prop) (Q : RQ) : Prop where
  ex : ∃ I : Nat → Env → Prop, (∃ γ2, Le (γ1.mem.length + 1) ((γ1.push (.mu (.lst []))).wipe vs) γ2 ∧ I 0 γ2) ∧ (∀ i γ2, I i γ2 → src.on γ2) ∧
    (∀ i t γ2, src.ts[i]? = some t → I i γ2 → step t (γ2.wipe vs) fun γ4 => ∃ γ5, Le (γ1.mem.length + 1) (γ4.wipe vs) γ5 ∧ I (i + 1) γ5) ∧ ∀ γ2, I src.ts.length γ2 → Q (.ref γ1.mem.length) γ2
def vLc (wi : Env → (Src → Env → Prop) → XQ → Prop) (wg : Rf → Env → (Env → Prop) → XQ → Prop) (wt : Env → (Bool → Env → Prop) → XQ → Prop) (we : VW) (vs : List Nat) : VW := fun γ Q X => wi γ (fun src γ1 =>
  LcI src γ1 vs (fun t γ2 N => wg (.val t) γ2 (fun γ3 => wt γ3 (fun c γ4 => br c (we γ4 (fun r γ5 => toT r γ5 fun t' γ6 => appQ γ1.mem.length t' γ6 N) noX) (N γ4)) noX) noX) Q) X
def vYes : Env → (Bool → Env → Prop) → XQ → Prop := fun γ Q _ => Q true γ
instance : VT K B E tYes vYes := ⟨fun {as γ σ G H Q Qv Xv} S h k _ => k true γ as true G H (List.prefix_refl _) (Same.refl _) S rfl h⟩
theorem app_ok {as : List Addr} {γ : Env} {σ : L2.St} {G H : Hp} {k : Nat} {a : Addr} {t : T} {v : V} {Q : Env → Prop} (S : StR K B as γ σ G H) (ea : as[k]? = some a) (rp : Rp K G v t) (h : appQ k t γ Q) :
    ∃ acc, H a = some (.lst acc) ∧ acc.length < sizeLine ∧ ∃ γ', StR K B as γ' σ G (L2.upd H a (.lst (acc ++ [v]))) ∧ Q γ' := by
  unfold appQ at h
  rw [nth_eq] at h
  split at h
  · rename_i ts e
    obtain ⟨_, acc, hacc, rpa⟩ := S.mem k a _ ea e
    exact ⟨acc, hacc, by rw [rpa.length]; exact h.1, _, S.write (t := .lst (ts ++ [t])) e ea ⟨_, upd_same, rpa.snoc rp⟩, h.2⟩
  · exact h.elim
instance {wi : TI} {g : TG} {tt : TT} {te : TE} {vs is : List Nat} {vi : Env → (Src → Env → Prop) → XQ → Prop} {vg : Rf → Env → (Env → Prop) → XQ → Prop} {vt : Env → (Bool → Env → Prop) → XQ → Prop} {ve : VW} [hi : VI K B E wi vi] [hg : VG K B E g vg is] [ht : VT K B E tt vt] [he : VE K B E te ve] [hs : SubL is vs] :
    VE K B E (tLc wi g tt te vs) (vLc vi vg vt ve vs) where
  run := fun {as γ σ G H Q Qv Xv} S h k kx => by
    refine hi.run S h (fun src γ1 as1 G1 H1 J p1 g1 S1 ok q1 => ?_) kx
    intro Da hD
    obtain ⟨⟨I, ⟨γ0, le0, i0⟩, on, step, done⟩⟩ := q1
    have SD := (S1.alloc (t := .lst []) (o := .lst []) hD ⟨[], upd_same, .nil⟩)
    have lD : (as1 ++ [Da]).length = γ1.mem.length + 1 := by rw [List.length_append, S1.mlen]; rfl
    have aD : (as1 ++ [Da])[γ1.mem.length]? = some Da := by rw [← S1.mlen, List.getElem?_append_right (Nat.le_refl _), Nat.sub_self]; rfl
    obtain ⟨as0, G0, pp0, gg0, SS0⟩ := StR.le le0 (SD.wipe vs) (List.prefix_refl _) lD
    refine ⟨fun i m H' => m = src.ts.length - i ∧ i ≤ src.ts.length ∧ ∃ as' γ' G', as1 ++ [Da] <+: as' ∧ Same G1 G' ∧ StR K B as' γ' σ G' H' ∧ I i γ', ⟨_, rfl, Nat.zero_le _, as0, γ0, G0, pp0, gg0, SS0, i0⟩, ?_⟩
    rintro i m H' ⟨rfl, hi', as', γ', G', p', g', S', inv⟩
    have pq : as1 <+: as' := (List.prefix_append _ _).trans p'
    obtain ⟨go, stop, yld⟩ := ok pq g' S' (on i γ' inv)
    by_cases hlt : i < src.ts.length
    · refine .inr ⟨go i hlt, fun H'' => i + 1 ≤ src.ts.length ∧ ∃ as'' γ'' G'', as1 ++ [Da] <+: as'' ∧ Same G1 G'' ∧ StR K B as'' γ'' σ G'' H'' ∧ I (i + 1) γ'', fun H'' q => ⟨_, by omega, rfl, q.1, q.2⟩, fun x H'' hy => ?_⟩
      obtain ⟨G2, t, et, g2, S2, rp⟩ := yld i x H'' hlt hy
      have S2' : StR K B as' (γ'.wipe vs) (L2.wipe σ vs) G2 H'' := (S2.wipe vs).rewipe (vs := vs) (wipe_wipe σ vs) fun i r e => Env.wipe_none γ' e
      refine hg.run S2' (r := .val t) rp (step i t γ' et inv) (fun γ3 as3 σ3 G3 H3 p3 g3 S3 w3 q3 => ?_) kxno
      have ws : L2.wipe σ3 vs = L2.wipe σ vs := (w3 vs hs.h).trans (wipe_wipe σ vs)
      refine ⟨ws, ht.run S3 q3 (fun b γ4 as4 b' G4 H4 p4 g4 S4 e q4 => ?_) kxno⟩
      cases e
      have gG : Same G1 G4 := (g'.trans g2).trans (g3.trans g4)
      have pP : as1 ++ [Da] <+: as4 := p'.trans (p3.trans p4)
      have fin : ∀ {γ5 : Env} {as5 : List Addr} {G5 H5 : Hp}, Same G1 G5 → as1 ++ [Da] <+: as5 → StR K B as5 γ5 σ3 G5 H5 → (∃ γ6, Le (γ1.mem.length + 1) (γ5.wipe vs) γ6 ∧ I (i + 1) γ6) → i + 1 ≤ src.ts.length ∧ ∃ as'' γ'' G'', as1 ++ [Da] <+: as'' ∧ Same G1 G'' ∧ StR K B as'' γ'' σ G'' H5 ∧ I (i + 1) γ'' := by
        rintro γ5 as5 G5 H5 gg pp S5 ⟨γ6, le6, i6⟩
        have S6 : StR K B as5 (γ5.wipe vs) σ G5 H5 := (S5.wipe vs).rewipe (vs := vs) ws.symm fun i r e => Env.wipe_none γ5 e
        obtain ⟨as7, G7, p7, g7, S7⟩ := StR.le le6 S6 pp lD
        exact ⟨hlt, as7, γ6, G7, p7, gg.trans g7, S7, i6⟩
      cases b with
      | false => exact fin gG pP S4 q4
      | true =>
        refine he.run S4 q4 (fun r γ5 as5 v G5 H5 p5 g5 S5 rr5 q5 => ?_) kxno
        obtain ⟨t', γ6, G6, g6, S6, rp6, q6⟩ := toT_ok S5 rr5 q5
        have pp : as1 ++ [Da] <+: as5 := pP.trans p5
        obtain ⟨acc, e1, e2, γ7, S7, q7⟩ := app_ok S6 (pre_get pp aD) rp6 q6
        exact ⟨acc, e1, e2, fin (gG.trans (g5.trans g6)) pp S7 q7⟩
    · have e : i = src.ts.length := by omega
      subst e
      refine .inl ⟨stop, k (.ref γ1.mem.length) _ _ _ _ _ (p1.trans pq) (g1.trans g') S' ⟨Da, pre_get p' aD, rfl⟩ (done γ' inv)⟩
end
end VL
set_option Elab.async false
set_option linter.all false
set_option maxRecDepth 100000
set_option maxHeartbeats 4000000
/-! promises over values: defs, calls -/
namespace VL
open PySem PySem.Spec PyProof.Rows L2 XR
/-- what a def gives: a settled value, a new open object -/
inductive Rt where
  | val (t : T) | new (t : T)
abbrev VSp := List T → (Rt → List T → Prop) → (VErr → List T → Prop) → Prop
def ioA : List Bool → List V → List Addr
  | true :: ks, .ref a :: vs => a :: ioA ks vs
  | _ :: ks, _ :: vs => ioA ks vs
  | _, _ => []
inductive ArgsR (K : PySem.W.Frag) (G H : Hp) : List Bool → List V → List T → Prop
  | nil : ArgsR K G H [] [] []
  | val {ks : List Bool} {vs : List V} {ts : List T} {v : V} {t : T} : Rp K G v t → ArgsR K G H ks vs ts → ArgsR K G H (false :: ks) (v :: vs) (t :: ts)
  | io {ks : List Bool} {vs : List V} {ts : List T} {a : Addr} {t : T} : G a = none → MutR K G H a t → ArgsR K G H ks vs ts → ArgsR K G H (true :: ks) (.ref a :: vs) (t :: ts)
structure Fin (K : PySem.W.Frag) (G H : Hp) (io : List Addr) (G' H' : Hp) (outs : List T) : Prop where
  gg : Same G G'
  vw : Same G' H'
  hh : ∀ a o, H a = some o → a ∉ io → H' a = some o
  out : ∀ a, H a ≠ none → G a = none → G' a = none
  outs : Paired (fun a t => MutR K G' H' a t) io outs
def RtR (K : PySem.W.Frag) (H G' H' : Hp) : Rt → V → Prop
  | .val t, v => Rp K G' v t
  | .new t, v => ∃ a, v = .ref a ∧ H a = none ∧ G' a = none ∧ MutR K G' H' a t
/-- the promise of a def: ks tells which parameters it changes -/
def vsp (K : PySem.W.Frag) (ks : List Bool) (fv : VSp) : Sp := fun vs H Q E => ∃ (G : Hp) (ts : List T) (Qv : Rt → List T → Prop) (Xv : VErr → List T → Prop),
  Same G H ∧ ArgsR K G H ks vs ts ∧ (ioA ks vs).Nodup ∧ fv ts Qv Xv ∧
  (∀ (rt : Rt) (outs : List T) (v : V) (G' H' : Hp), Fin K G H (ioA ks vs) G' H' outs → RtR K H G' H' rt v → Qv rt outs → Q v H') ∧
  (∀ (e : VErr) (outs : List T) (d : Option Addr) (G' H' : Hp), Fin K G H (ioA ks vs) G' H' outs → ErrF K G' d e.2 → Xv e outs → E (.ref e.1) d H')
theorem ArgsR.len {K : PySem.W.Frag} {G H : Hp} {ks : List Bool} {vs : List V} {ts : List T} (h : ArgsR K G H ks vs ts) : vs.length = ks.length := by
  induction h with
  | nil => rfl
  | val _ _ ih => simp [ih]
  | io _ _ _ ih => simp [ih]
/-! ### at the entry of a def -/
def slots0 : List Bool → List T → Nat → List (Option Rf)
  | true :: ks, _ :: ts, n => some (.ref n) :: slots0 ks ts (n + 1)
  | false :: ks, t :: ts, n => some (.val t) :: slots0 ks ts n
  | _, _, _ => []
def mem0 : List Bool → List T → List MO
  | true :: ks, t :: ts => .mu t :: mem0 ks ts
  | false :: ks, _ :: ts => mem0 ks ts
  | _, _ => []
def nones : Nat → List (Option Rf)
  | 0 => []
  | n + 1 => none :: nones n
theorem nones_len : ∀ n, (nones n).length = n
  | 0 => rfl
  | n + 1 => congrArg (· + 1) (nones_len n)
theorem nones_at : ∀ (n i : Nat) (r : Rf), (nones n)[i]? ≠ some (some r)
  | 0, i, r => by simp [nones]
  | n + 1, 0, r => by simp [nones]
  | n + 1, i + 1, r => nones_at n i r
def env0 (ks : List Bool) (ts : List T) (more : Nat) : Env := ⟨(mem0 ks ts).length, slots0 ks ts 0 ++ nones more, mem0 ks ts⟩
section
variable {K : PySem.W.Frag} {G H : Hp}
theorem mem0_ok : ∀ {ks : List Bool} {vs : List V} {ts : List T}, ArgsR K G H ks vs ts → (ioA ks vs).length = (mem0 ks ts).length ∧ ∀ (k : Nat) (a : Addr) (m : MO), (ioA ks vs)[k]? = some a → (mem0 ks ts)[k]? = some m → MemR K G H a m
  | _, _, _, .nil => ⟨rfl, fun k a m e _ => by cases e⟩
  | _, _, _, .val (v := v) a b => by
    obtain ⟨h1, h2⟩ := mem0_ok b
    cases v <;> exact ⟨h1, h2⟩
  | _, _, _, .io g a b => by
    obtain ⟨h1, h2⟩ := mem0_ok b
    refine ⟨congrArg (· + 1) h1, fun k c m e1 e2 => ?_⟩
    cases k with
    | zero => cases e1; cases e2; exact ⟨g, a⟩
    | succ k => exact h2 k c m e1 e2
theorem slots0_ok {ex : Addr × Value × Option Addr} : ∀ {ks : List Bool} {vs : List V} {ts : List T} (pre : List Addr), ArgsR K G H ks vs ts → (slots0 ks ts pre.length).length = vs.length ∧
    ∀ (i : Nat) (r : Rf), (slots0 ks ts pre.length)[i]? = some (some r) → ∃ v, vs[i]? = some v ∧ RR K ex (pre ++ ioA ks vs) G r v
  | _, _, _, pre, .nil => ⟨rfl, fun i r e => by cases e⟩
  | _, _, _, pre, .val (ks := ks) (vs := vs) (v := v) a b => by
    obtain ⟨h1, h2⟩ := slots0_ok (ex := ex) pre b
    have e0 : ioA (false :: ks) (v :: vs) = ioA ks vs := by cases v <;> rfl
    refine ⟨congrArg (· + 1) h1, fun i r e => ?_⟩
    rw [e0]
    cases i with
    | zero => cases e; exact ⟨_, rfl, a⟩
    | succ i => exact h2 i r e
  | _, _, _, pre, .io (ks := ks) (vs := vs) (a := p) g a b => by
    obtain ⟨h1, h2⟩ := slots0_ok (ex := ex) (pre ++ [p]) b
    rw [List.length_append, List.length_singleton] at h1 h2
    refine ⟨congrArg (· + 1) h1, fun i r e => ?_⟩
    have e0 : pre ++ ioA (true :: ks) (V.ref p :: vs) = (pre ++ [p]) ++ ioA ks vs := by
      show pre ++ (p :: ioA ks vs) = _
      simp
    cases i with
    | zero =>
      cases e
      refine ⟨_, rfl, p, ?_, rfl⟩
      show (pre ++ p :: ioA ks vs)[pre.length]? = some p
      rw [List.getElem?_append_right (Nat.le_refl _), Nat.sub_self]; rfl
    | succ i =>
      obtain ⟨v, e1, e2⟩ := h2 i r e
      exact ⟨v, e1, by rw [e0]; exact e2⟩
end
section
variable {K : PySem.W.Frag} {G H : Hp} {ks : List Bool} {vs : List V} {ts : List T} {N : List Str}
theorem start_ok (vw : Same G H) (ar : ArgsR K G H ks vs ts) (nd : (ioA ks vs).Nodup) (hN : vs.length ≤ N.length) : StR K ⟨G, H, ioA ks vs, (0, .none, none)⟩ (ioA ks vs) (env0 ks ts (N.length - vs.length)) (L2.start N vs) G H := by
  obtain ⟨m1, m2⟩ := mem0_ok ar
  obtain ⟨s1, s2⟩ := slots0_ok (ex := ((0 : Addr), Value.none, (none : Option Addr))) [] ar
  refine ⟨vw, Same.refl _, fun a _ h => h, fun a o e _ => e, m1.symm, List.prefix_refl _, m1, nd, fun k a e hk => ?_, m2, ?_, fun i r e => ?_⟩
  · have hl : k < (ioA ks vs).length := (List.getElem?_eq_some_iff.mp e).1
    have hk : (ioA ks vs).length ≤ k := hk
    omega
  · show (L2.start N vs).length = (slots0 ks ts 0 ++ nones _).length
    unfold L2.start
    rw [List.length_append, List.length_map, List.length_replicate, List.length_append, nones_len, show (slots0 ks ts 0).length = vs.length from s1]
  · have e : (slots0 ks ts 0 ++ nones (N.length - vs.length))[i]? = some (some r) := e
    have s1 : (slots0 ks ts 0).length = vs.length := s1
    rcases Nat.lt_or_ge i vs.length with hi | hi
    · rw [List.getElem?_append_left (by rw [s1]; exact hi)] at e
      obtain ⟨v, e1, e2⟩ := s2 i r e
      refine ⟨v, ?_, by simpa using e2⟩
      unfold L2.start
      rw [List.getElem?_append_left (by rw [List.length_map]; exact hi), List.getElem?_map, e1]
      rfl
    · rw [List.getElem?_append_right (by rw [s1]; exact hi)] at e
      exact absurd e (nones_at _ _ _)
end
/-! ### at its end -/
def outs : Nat → List MO → (List T → Prop) → Prop
  | 0, _, Q => Q []
  | n + 1, .mu t :: r, Q => outs n r fun ts => Q (t :: ts)
  | _ + 1, _, _ => False
def outsQ (γ : Env) (Q : List T → Prop) : Prop := outs γ.nio γ.mem Q
def finQ (Qv : Rt → List T → Prop) : RQ := fun r γ => match r with
  | .val t => outsQ γ fun o => Qv (.val t) o
  | .ref k => match nth γ.mem k with
    | some (.fz t) => outsQ γ fun o => Qv (.val t) o
    | some (.mu t) => match Nat.blt k γ.nio with
      | true => False
      | false => outsQ γ fun o => Qv (.new t) o
    | none => False
  | .err _ _ => False
def endsV (Qv : Rt → List T → Prop) : VEnds := ⟨fun γ => outsQ γ fun o => Qv (.val .non) o, finQ Qv, fun _ => False, fun _ => False, noX⟩
def endsX (Qv : Rt → List T → Prop) (Xv : VErr → List T → Prop) : VEnds := ⟨fun γ => outsQ γ fun o => Qv (.val .non) o, finQ Qv, fun _ => False, fun _ => False, fun e γ => outsQ γ fun o => Xv e o⟩
section
variable {K : PySem.W.Frag} {G H : Hp} {ks : List Bool} {vs : List V} {ts : List T} {as : List Addr} {γ : Env} {σ : L2.St} {G' H' : Hp}
theorem outs_ok {K : PySem.W.Frag} {G' H' : Hp} : ∀ {io : List Addr} {mem : List MO} {Q : List T → Prop}, (∀ (k : Nat) (a : Addr) (m : MO), io[k]? = some a → mem[k]? = some m → MemR K G' H' a m) → outs io.length mem Q → ∃ o, Paired (fun a t => MutR K G' H' a t) io o ∧ Q o
  | [], mem, Q, hm, h => ⟨[], .nil, h⟩
  | a :: io, [], Q, hm, h => by cases h
  | a :: io, .fz t :: mem, Q, hm, h => by cases h
  | a :: io, .mu t :: mem, Q, hm, h => by
    obtain ⟨o, p, q⟩ := outs_ok (io := io) (mem := mem) (fun k b m e1 e2 => hm (k + 1) b m e1 e2) h
    exact ⟨t :: o, .cons (hm 0 a _ rfl rfl).2 p, q⟩
theorem fin_of {io : List Addr} {ex : Addr × Value × Option Addr} {Q : List T → Prop} (S : StR K ⟨G, H, io, ex⟩ as γ σ G' H') (h : outsQ γ Q) : ∃ o, Fin K G H io G' H' o ∧ Q o := by
  unfold outsQ at h
  rw [S.nio] at h
  obtain ⟨o, p, q⟩ := outs_ok (K := K) (G' := G') (H' := H') (io := io) (mem := γ.mem) (fun k a m e1 e2 => S.mem k a m (pre_get S.pre e1) e2) h
  exact ⟨o, ⟨S.gg, S.vw, fun a o e n => S.hh a o e n, S.out, p⟩, q⟩
theorem rt_of {io : List Addr} {ex : Addr × Value × Option Addr} {Qv : Rt → List T → Prop} {r : Rf} {v : V} (S : StR K ⟨G, H, io, ex⟩ as γ σ G' H') (rr : RR K ex as G' r v) (h : finQ Qv r γ) : ∃ rt o, Fin K G H io G' H' o ∧ RtR K H G' H' rt v ∧ Qv rt o := by
  unfold finQ at h
  cases r with
  | val t =>
    obtain ⟨o, f, q⟩ := fin_of S h
    exact ⟨.val t, o, f, rr, q⟩
  | ref k =>
    obtain ⟨a, ea, rfl⟩ := rr
    simp only [nth_eq] at h
    split at h
    · rename_i t e
      obtain ⟨o, f, q⟩ := fin_of S h
      exact ⟨.val t, o, f, (S.mem k a _ ea e).2, q⟩
    · rename_i t e
      split at h
      · exact h.elim
      · rename_i hb
        have hk : io.length ≤ k := by
          have hn : γ.nio = io.length := S.nio
          rcases Nat.lt_or_ge k γ.nio with z | z
          · have : Nat.blt k γ.nio = true := by simpa [Nat.blt_eq] using z
            rw [this] at hb; cases hb
          · omega
        obtain ⟨o, f, q⟩ := fin_of S h
        obtain ⟨g1, g2⟩ := S.mem k a _ ea e
        exact ⟨.new t, o, f, ⟨a, rfl, S.fresh k a ea hk, g1, g2⟩, q⟩
    · exact h.elim
  | err D gs => exact h.elim
end
section
variable {P : Program} {w : World} {K : PySem.W.Frag} {mg : Str → Option Value} {base : Heap}
theorem okV {x qual : Str} {st : Stmt} {f : Addr} {fd : FuncData} {N ps : List Str} {k : Nat} {ks : List Bool} {fv : VSp} (F : Fun K x qual st f fd) (S : FnScope N ps (defScope st)) (hk : ks.length = ps.length) (hN : ps.length ≤ N.length)
    (body : ∀ (cdv : Value) (A : Around) (outer : List PySem.Env) (s : Shared) (H : Hp) (E : XK), Room k (A.deeper (envOfC qual (defScope st) s.heap.objs.size f cdv)) →
      ∃ t, PSs (cxOf CX0 P w K mg base N qual (defScope st) f cdv A outer s H E).nox (defBody st) t ∧ ∃ wv, (∀ B : Bs, VS K B (fun _ => E) t wv) ∧ ∀ (ts : List T) (Qv : Rt → List T → Prop) (Xv : VErr → List T → Prop), fv ts Qv Xv → wv (env0 ks ts (N.length - ps.length)) (endsV Qv)) :
    FnOk P w K mg base CX0 (k + 1) f fd ps (vsp K ks fv) := by
  refine F.ok S (fun vs H Q E h => ?_) fun cdv A outer s H vs Q E hr h => ?_
  · obtain ⟨G, ts, Qv, Xv, _, ar, _⟩ := h
    exact ar.len.trans hk
  · obtain ⟨t, hp, wv, hv, go⟩ := body cdv A outer s H E hr
    obtain ⟨G, ts, Qv, Xv, vw, ar, nd, hf, kr, kx⟩ := h
    refine ⟨t, hp, ?_⟩
    have hl : vs.length = ps.length := ar.len.trans hk
    have S0 := start_ok (N := N) vw ar nd (by omega)
    have q := go ts Qv Xv hf
    rw [← hl] at q
    refine (hv _).run S0 q ⟨fun γ' as' σ' G' H' _ _ S' z => ?_, fun _ _ _ _ _ _ _ _ z => z.elim, fun _ _ _ _ _ _ _ _ z => z.elim, fun σ' r γ' as' v G' H' _ _ S' rr z => ?_, fun σ' => kxno⟩
    · obtain ⟨o, f, z⟩ := fin_of S' z
      exact kr (.val .non) _ _ _ _ f Rp.non z
    · obtain ⟨rt, o, f, rr, z⟩ := rt_of S' rr z
      exact kr _ _ _ _ _ f rr z
theorem okVX {x qual : Str} {st : Stmt} {f : Addr} {fd : FuncData} {N ps : List Str} {k : Nat} {ks : List Bool} {fv : VSp} (F : Fun K x qual st f fd) (S : FnScope N ps (defScope st)) (hk : ks.length = ps.length) (hN : ps.length ≤ N.length)
    (body : ∀ (cdv : Value) (A : Around) (outer : List PySem.Env) (s : Shared) (H : Hp) (E : XK), Room k (A.deeper (envOfC qual (defScope st) s.heap.objs.size f cdv)) →
      ∃ t, PSs (cxOf (L2.CX P w) P w K mg base N qual (defScope st) f cdv A outer s H E) (defBody st) t ∧ ∃ wv, (∀ B : Bs, VS K B (fun _ => E) t wv) ∧ ∀ (ts : List T) (Qv : Rt → List T → Prop) (Xv : VErr → List T → Prop), fv ts Qv Xv → wv (env0 ks ts (N.length - ps.length)) (endsX Qv Xv)) :
    FnOk P w K mg base (L2.CX P w) (k + 1) f fd ps (vsp K ks fv) := by
  refine F.okX S (fun vs H Q E h => ?_) fun cdv A outer s H vs Q E hr h => ?_
  · obtain ⟨G, ts, Qv, Xv, _, ar, _⟩ := h
    exact ar.len.trans hk
  · obtain ⟨t, hp, wv, hv, go⟩ := body cdv A outer s H E hr
    obtain ⟨G, ts, Qv, Xv, vw, ar, nd, hf, kr, kx⟩ := h
    refine ⟨t, hp, ?_⟩
    have hl : vs.length = ps.length := ar.len.trans hk
    have S0 := start_ok (N := N) vw ar nd (by omega)
    have q := go ts Qv Xv hf
    rw [← hl] at q
    refine (hv _).run S0 q ⟨fun γ' as' σ' G' H' _ _ S' z => ?_, fun _ _ _ _ _ _ _ _ z => z.elim, fun _ _ _ _ _ _ _ _ z => z.elim, fun σ' r γ' as' v G' H' _ _ S' rr z => ?_, fun σ' e γ' as' d G' H' _ _ S' er z => ?_⟩
    · obtain ⟨o, f, z⟩ := fin_of S' z
      exact kr (.val .non) _ _ _ _ f Rp.non z
    · obtain ⟨rt, o, f, rr, z⟩ := rt_of S' rr z
      exact kr _ _ _ _ _ f rr z
    · obtain ⟨o, f, z⟩ := fin_of S' z
      exact kx e _ d G' H' f er z
end
/-! ### a call -/
inductive Ag where
  | v (t : T) | m (k : Nat)
def settle : List Bool → List Rf → Env → (List Ag → Env → Prop) → Prop
  | [], [], γ, Q => Q [] γ
  | false :: ks, r :: rs, γ, Q => toT r γ fun t γ1 => settle ks rs γ1 fun as γ2 => Q (.v t :: as) γ2
  | true :: ks, .ref k :: rs, γ, Q => settle ks rs γ fun as γ2 => Q (.m k :: as) γ2
  | _, _, _, _ => False
def agT : List Ag → Env → (List T → List Nat → Prop) → Prop
  | [], _, Q => Q [] []
  | .v t :: r, γ, Q => agT r γ fun ts kk => Q (t :: ts) kk
  | .m k :: r, γ, Q => match nth γ.mem k with
    | some (.mu t) => agT r γ fun ts kk => Q (t :: ts) (k :: kk)
    | _ => False
def putM : List Nat → List T → Env → (Env → Prop) → Prop
  | [], [], γ, Q => Q γ
  | k :: kk, t :: ts, γ, Q => putM kk ts (γ.put k (.mu t)) Q
  | _, _, _, _ => False
def retQ (rt : Rt) (γ : Env) (Q : RQ) : Prop := match rt with
  | .val t => Q (.val t) γ
  | .new t => γ.new t Q
def ndB : List Nat → Bool
  | [] => true
  | k :: r => match r.contains k with
    | true => false
    | false => ndB r
theorem ndB_ok : ∀ {kk : List Nat}, ndB kk = true → kk.Nodup
  | [], _ => .nil
  | k :: r, h => by
    unfold ndB at h
    split at h
    · cases h
    · rename_i e
      exact List.nodup_cons.mpr ⟨fun hm => by simp [hm] at e, ndB_ok h⟩
def callQ (ks : List Bool) (fv : VSp) (rs : List Rf) (γ : Env) (Q : RQ) (X : XQ) : Prop :=
  settle ks rs γ fun ags γ1 => agT ags γ1 fun ts kk => match ndB kk with
    | true => fv ts (fun rt o => putM kk o γ1 fun γ2 => retQ rt γ2 Q) (fun e o => putM kk o γ1 fun γ2 => X e γ2)
    | false => False
section
variable {K : PySem.W.Frag} {B : Bs} {as : List Addr} {σ : L2.St} {H : Hp}
def AgR (K : PySem.W.Frag) (as : List Addr) (G : Hp) : Ag → V → Prop
  | .v t, v => Rp K G v t
  | .m k, v => ∃ a, as[k]? = some a ∧ v = .ref a
theorem AgR.mono {G G' : Hp} (g : Same G G') : ∀ {ags : List Ag} {vs : List V}, Paired (AgR K as G) ags vs → Paired (AgR K as G') ags vs
  | _, _, .nil => .nil
  | .v t :: _, _, .cons a b => .cons (Rp.mono g a) (AgR.mono g b)
  | .m k :: _, _, .cons a b => .cons a (AgR.mono g b)
theorem settle_ok : ∀ {ks : List Bool} {rs : List Rf} {vs : List V} {γ : Env} {G : Hp} {Q : List Ag → Env → Prop}, StR K B as γ σ G H → RRs K B.ex as G rs vs → settle ks rs γ Q → ∃ ags γ' G', Same G G' ∧ StR K B as γ' σ G' H ∧ Paired (AgR K as G') ags vs ∧ ags.map (fun g => match g with | .v _ => false | .m _ => true) = ks ∧ Q ags γ'
  | [], _, _, γ, G, Q, S, .nil, h => ⟨[], γ, G, Same.refl _, S, .nil, rfl, h⟩
  | [], _, _, γ, G, Q, S, .cons _ _, h => by cases h
  | false :: ks, _, _, γ, G, Q, S, .cons a b, h => by
    obtain ⟨t, γ1, G1, g1, S1, rp, h⟩ := toT_ok S a h
    obtain ⟨ags, γ2, G2, g2, S2, p, e, q⟩ := settle_ok S1 (RRs.mono (List.prefix_refl _) g1 b) h
    exact ⟨.v t :: ags, γ2, G2, g1.trans g2, S2, .cons (rp.mono g2) p, by rw [List.map_cons, e], q⟩
  | true :: ks, .ref k :: _, _, γ, G, Q, S, .cons a b, h => by
    obtain ⟨ags, γ2, G2, g2, S2, p, e, q⟩ := settle_ok S b h
    exact ⟨.m k :: ags, γ2, G2, g2, S2, .cons a p, by rw [List.map_cons, e], q⟩
  | false :: _, _, _, _, _, _, _, .nil, h => by cases h
  | true :: _, _, _, _, _, _, _, .nil, h => by cases h
  | true :: _, .val _ :: _, _, _, _, _, _, .cons _ _, h => by cases h
  | true :: _, .err _ _ :: _, _, _, _, _, _, .cons _ _, h => by cases h
theorem agT_ok {γ : Env} {G : Hp} (S : StR K B as γ σ G H) : ∀ {ags : List Ag} {vs : List V} {Q : List T → List Nat → Prop}, Paired (AgR K as G) ags vs → agT ags γ Q → ∃ ts kk, ArgsR K G H (ags.map (fun g => match g with | .v _ => false | .m _ => true)) vs ts ∧
    Paired (fun (k : Nat) (a : Addr) => as[k]? = some a ∧ ∃ t, γ.mem[k]? = some (.mu t)) kk (ioA (ags.map (fun g => match g with | .v _ => false | .m _ => true)) vs) ∧ Q ts kk
  | [], _, Q, .nil, h => ⟨[], [], .nil, .nil, h⟩
  | .v t :: ags, v :: vs, Q, .cons a b, h => by
    obtain ⟨ts, kk, h1, h2, h3⟩ := agT_ok S b h
    refine ⟨t :: ts, kk, .val a h1, ?_, h3⟩
    cases v <;> exact h2
  | .m k :: ags, _, Q, .cons a b, h => by
    obtain ⟨p, ea, rfl⟩ := a
    unfold agT at h
    rw [nth_eq] at h
    split at h
    · rename_i t e
      obtain ⟨ts, kk, h1, h2, h3⟩ := agT_ok S b h
      obtain ⟨g1, g2⟩ := S.mem k p _ ea e
      exact ⟨t :: ts, k :: kk, .io g1 g2 h1, .cons ⟨ea, t, e⟩ h2, h3⟩
    · exact h.elim
def putAll : List Nat → List T → Env → Env
  | k :: kk, t :: ts, γ => putAll kk ts (γ.put k (.mu t))
  | _, _, γ => γ
theorem putM_all : ∀ (kk : List Nat) {ts : List T} {γ : Env} {Q : Env → Prop}, putM kk ts γ Q → Q (putAll kk ts γ)
  | [], [], _, _, h => h
  | _ :: kk, _ :: _, _, _, h => putM_all kk h
  | [], _ :: _, _, _, h => by cases h
  | _ :: _, [], _, _, h => by cases h
theorem putAll_sl : ∀ (kk : List Nat) (ts : List T) (γ : Env), (putAll kk ts γ).sl = γ.sl ∧ (putAll kk ts γ).nio = γ.nio ∧ (putAll kk ts γ).mem.length = γ.mem.length
  | [], _, _ => ⟨rfl, rfl, rfl⟩
  | _ :: _, [], _ => ⟨rfl, rfl, rfl⟩
  | k :: kk, t :: ts, γ => by
    obtain ⟨h1, h2, h3⟩ := putAll_sl kk ts (γ.put k (.mu t))
    exact ⟨h1, h2, h3.trans (by show (γ.mem.set _ _).length = _; simp)⟩
theorem putAll_at : ∀ (kk : List Nat) (ts : List T) (γ : Env) (j : Nat) (m : MO), kk.Nodup → kk.length = ts.length → (putAll kk ts γ).mem[j]? = some m → (j ∉ kk ∧ γ.mem[j]? = some m) ∨ ∃ (i : Nat) (t : T), kk[i]? = some j ∧ ts[i]? = some t ∧ m = .mu t
  | [], _, γ, j, m, _, _, e => .inl ⟨by simp, e⟩
  | _ :: _, [], γ, j, m, _, hl, e => by cases hl
  | k :: kk, t :: ts, γ, j, m, nd, hl, e => by
    obtain ⟨n1, n2⟩ := List.nodup_cons.mp nd
    rcases putAll_at kk ts (γ.put k (.mu t)) j m n2 (by simpa using hl) e with ⟨h1, h2⟩ | ⟨i, u, h1, h2, h3⟩
    · have h2 : (γ.mem.set k (.mu t))[j]? = some m := h2
      by_cases hj : j = k
      · subst hj
        have hlt : j < γ.mem.length := by
          rcases Nat.lt_or_ge j γ.mem.length with z | z
          · exact z
          · rw [List.getElem?_eq_none (by simpa using z)] at h2; cases h2
        rw [List.getElem?_set_self hlt] at h2
        cases h2
        exact .inr ⟨0, t, rfl, rfl, rfl⟩
      · rw [List.getElem?_set_ne (Ne.symm hj)] at h2
        exact .inl ⟨fun hm => (List.mem_cons.mp hm).elim hj h1, h2⟩
    · exact .inr ⟨i + 1, u, h1, h2, h3⟩
theorem paired_len {α β : Type} {F : α → β → Prop} : ∀ {xs : List α} {ys : List β}, Paired F xs ys → xs.length = ys.length
  | _, _, .nil => rfl
  | _, _, .cons _ t => congrArg (· + 1) (paired_len t)
theorem paired_get {α β : Type} {F : α → β → Prop} : ∀ {xs : List α} {ys : List β} {i : Nat} {x : α}, Paired F xs ys → xs[i]? = some x → ∃ y, ys[i]? = some y ∧ F x y
  | _, _, _, _, .nil, e => by cases e
  | _, _, 0, _, .cons a _, e => by cases e; exact ⟨_, rfl, a⟩
  | _, _, i + 1, _, .cons _ b, e => paired_get (i := i) b e
/-- behind the callee -/
theorem StR.called {γ : Env} {G G' H' : Hp} {io : List Addr} {kk : List Nat} {o : List T} (S : StR K B as γ σ G H) (pk : Paired (fun (k : Nat) (a : Addr) => as[k]? = some a ∧ ∃ t, γ.mem[k]? = some (.mu t)) kk io) (nd : kk.Nodup) (F : Fin K G H io G' H' o) : StR K B as (putAll kk o γ) σ G' H' := by
  obtain ⟨e1, e2, e3⟩ := putAll_sl kk o γ
  have hio : ∀ a ∈ io, ∃ k, as[k]? = some a := fun a ha => by
    obtain ⟨i, hi, e⟩ := List.getElem_of_mem ha
    have hk : i < kk.length := by rw [paired_len pk]; exact hi
    obtain ⟨y, hy, q, _⟩ := paired_get pk (List.getElem?_eq_getElem hk)
    rw [List.getElem?_eq_getElem hi, e] at hy
    cases hy
    exact ⟨_, q⟩
  have hl : kk.length = o.length := (paired_len pk).trans (paired_len F.outs)
  have known : ∀ (k : Nat) (a : Addr), as[k]? = some a → H a ≠ none := fun k a e => S.known e
  refine ⟨F.vw, S.gg.trans F.gg, fun a h1 h2 => F.out a ?_ (S.out a h1 h2), fun a u h1 h2 => F.hh a u (S.hh a u h1 h2) fun hm => ?_, e2.trans S.nio, S.pre, S.mlen.trans e3.symm, S.nd, S.fresh, fun j b m x1 x2 => ?_, S.slen.trans (by rw [e1]), fun i r x => ?_⟩
  · by_cases hm : a ∈ B.io
    · exact S.io_known hm
    · obtain ⟨u, hu⟩ := Option.ne_none_iff_exists'.mp h1
      rw [S.hh a u hu hm]; exact fun z => by cases z
  · obtain ⟨k, ek⟩ := hio a hm
    by_cases hk : k < B.io.length
    · refine h2 ?_
      obtain ⟨r, hr⟩ := S.pre
      rw [← hr, List.getElem?_append_left hk] at ek
      exact List.mem_of_getElem? ek
    · rw [S.fresh k a ek (by omega)] at h1; cases h1
  · rcases putAll_at kk o γ j m nd hl x2 with ⟨h1, h2⟩ | ⟨i, t, h1, h2, rfl⟩
    · have nb : b ∉ io := fun hm => by
        obtain ⟨i, hi, e⟩ := List.getElem_of_mem hm
        have hk : i < kk.length := by rw [paired_len pk]; exact hi
        obtain ⟨y, hy, q, _⟩ := paired_get pk (List.getElem?_eq_getElem hk)
        rw [List.getElem?_eq_getElem hi, e] at hy
        cases hy
        have : kk[i] = j := nodup_at S.nd q x1
        exact h1 (this ▸ List.getElem_mem hk)
      obtain ⟨u, hu⟩ := Option.ne_none_iff_exists'.mp (known j b x1)
      exact (S.mem j b m x1 h2).mono F.gg (by rw [hu]; exact F.hh b u hu nb) fun z => F.out b (known j b x1) z
    · obtain ⟨a, ha, q, t0, qt⟩ := paired_get pk h1
      have : a = b := by rw [q] at x1; exact Option.some.inj x1
      subst this
      have hi : i < io.length := (List.getElem?_eq_some_iff.mp ha).1
      obtain ⟨u, hu, mu⟩ := paired_get F.outs ha
      rw [h2] at hu
      cases hu
      exact ⟨F.out a (known j a x1) (S.mem j a _ x1 qt).1, mu⟩
  · rw [e1] at x
    obtain ⟨v, x1, x2⟩ := S.sl i r x
    exact ⟨v, x1, x2.mono (List.prefix_refl _) F.gg⟩
/-- an object that stands already is taken in -/
theorem StR.adopt {γ : Env} {G : Hp} {p : Addr} {t : T} (S : StR K B as γ σ G H) (h1 : B.H0 p = none) (h2 : p ∉ as) (h3 : G p = none) (q : MutR K G H p t) : StR K B (as ++ [p]) (γ.push (.mu t)) σ G H := by
  refine ⟨S.vw, S.gg, S.out, S.hh, S.nio, S.pre.trans (List.prefix_append _ _), by show (as ++ [p]).length = (γ.mem ++ [_]).length; simp [S.mlen], ?_, ?_, ?_, S.slen, fun i r e => ?_⟩
  · rw [List.nodup_append]
    exact ⟨S.nd, by simp, fun a ha b hb => by rw [List.mem_singleton.mp hb]; exact fun z => h2 (z ▸ ha)⟩
  · intro k a e hk
    rcases Nat.lt_trichotomy k as.length with hlt | rfl | hgt
    · rw [List.getElem?_append_left hlt] at e; exact S.fresh k a e hk
    · rw [List.getElem?_append_right (Nat.le_refl _), Nat.sub_self] at e
      obtain rfl : p = a := by simpa using e
      exact h1
    · rw [List.getElem?_eq_none (by simp; omega)] at e; cases e
  · intro k a m e1 e2
    rcases Nat.lt_trichotomy k as.length with hlt | rfl | hgt
    · rw [List.getElem?_append_left hlt] at e1
      have e2 : (γ.mem ++ [MO.mu t])[k]? = some m := e2
      rw [List.getElem?_append_left (by rw [← S.mlen]; exact hlt)] at e2
      exact S.mem k a m e1 e2
    · rw [List.getElem?_append_right (Nat.le_refl _), Nat.sub_self] at e1
      obtain rfl : p = a := by simpa using e1
      have e2 : (γ.mem ++ [MO.mu t])[as.length]? = some m := e2
      rw [S.mlen, List.getElem?_append_right (Nat.le_refl _), Nat.sub_self] at e2
      obtain rfl : MO.mu t = m := by simpa using e2
      exact ⟨h3, q⟩
    · rw [List.getElem?_eq_none (by simp; omega)] at e1; cases e1
  · obtain ⟨v, e1, e2⟩ := S.sl i r e
    exact ⟨v, e1, e2.mono (List.prefix_append _ _) (Same.refl _)⟩
/-- the callee's promise from the caller's side -/
theorem call_ok {ks : List Bool} {fv : VSp} {rs : List Rf} {vs : List V} {γ : Env} {G : Hp} {Q : VK} {E1 : XK} {Qv : RQ} {Xv : XQ} (S : StR K B as γ σ G H) (rr : RRs K B.ex as G rs vs) (h : callQ ks fv rs γ Qv Xv) (k : KontP K B as σ G (rR K B) Q Qv) (kx : KontX K B as σ G E1 Xv) : vsp K ks fv vs H Q E1 := by
  obtain ⟨ags, γ1, G1, g1, S1, p, e, h⟩ := settle_ok S rr h
  obtain ⟨ts, kk, ar, pk, h⟩ := agT_ok S1 p h
  rw [e] at ar pk
  split at h
  · rename_i nd
    have nd := ndB_ok nd
    refine ⟨G1, ts, _, _, S1.vw, ar, ?_, h, fun rt o v G' H' F r q => ?_, fun er o d G' H' F r q => ?_⟩
    · -- the open arguments are different objects
      rw [List.Nodup, List.pairwise_iff_getElem]
      intro i j hi0 hj0 hij e2
      have hl := paired_len pk
      have hi : i < kk.length := by omega
      have hj' : j < kk.length := by omega
      obtain ⟨a, ha, qa, _⟩ := paired_get pk (List.getElem?_eq_getElem hi)
      obtain ⟨b, hb, qb, _⟩ := paired_get pk (List.getElem?_eq_getElem hj')
      rw [List.getElem?_eq_getElem hi0] at ha
      rw [List.getElem?_eq_getElem hj0] at hb
      cases ha
      cases hb
      rw [e2] at qa
      have e3 : kk[i] = kk[j] := nodup_at S1.nd qa qb
      have e4 : i = j := (List.getElem_inj nd).mp e3
      omega
    · have S2 := S1.called pk nd F
      have q := putM_all _ q
      cases rt with
      | val t => exact k (.val t) _ _ _ _ _ (List.prefix_refl _) (g1.trans F.gg) S2 r q
      | new t =>
        obtain ⟨a, rfl, ha, hg, mu⟩ := r
        have S3 := S2.adopt (S1.new0 ha) (S1.newA ha) hg mu
        refine k (.ref (putAll kk o γ1).mem.length) _ _ _ _ _ (List.prefix_append _ _) (g1.trans F.gg) S3 ⟨a, ?_, rfl⟩ q
        rw [← S2.mlen, List.getElem?_append_right (Nat.le_refl _), Nat.sub_self]
        rfl
    · exact kx er _ _ d G' H' (List.prefix_refl _) (g1.trans F.gg) (S1.called pk nd F) r (putM_all _ q)
  · exact h.elim
end
end VL
set_option Elab.async false
set_option linter.all false
set_option maxRecDepth 100000
set_option maxHeartbeats 4000000
/-! readings over values: calls, methods, instances, own operators -/
namespace VL
open PySem PySem.Spec PyProof.Rows L2 XR
/-! ### a def that changes nothing and gives a flat value: its arguments are only looked at -/
def flatT : T → Bool
  | .non => true
  | .bl _ => true
  | .int _ => true
  | .str _ => true
  | _ => false
abbrev VSpF := List T → (T → Prop) → Prop
def falses : Nat → List Bool
  | 0 => []
  | n + 1 => false :: falses n
/-- .. as a promise with nothing open -/
def ofF (fv : VSpF) : VSp := fun ts Q _ => ∃ Q0 : T → Prop, fv ts Q0 ∧ ∀ t, flatT t = true → Q0 t → Q (.val t) []
def vspF (K : PySem.W.Frag) (fv : VSpF) : Sp := fun vs H Q _ => ∃ (G : Hp) (ts : List T) (Qv : T → Prop), Same G H ∧ RpAll K G vs ts ∧ fv ts Qv ∧ ∀ (t : T) (v : V) (H' : Hp), Same H H' → (∀ G' : Hp, Rp K G' v t) → Qv t → Q v H'
theorem flat_any {K : PySem.W.Frag} {G G' : Hp} {v : V} {t : T} (r : Rp K G v t) (f : flatT t = true) : Rp K G' v t := by
  cases r with
  | non => exact .non
  | bl b => exact .bl b
  | int i => exact .int i
  | str s h => exact .str s h
  | _ => cases f
theorem argsF {K : PySem.W.Frag} {G H : Hp} : ∀ {vs : List V} {ts : List T}, RpAll K G vs ts → ArgsR K G H (falses vs.length) vs ts
  | _, _, .nil => .nil
  | _, _, .cons a b => .val a (argsF b)
theorem ioF : ∀ (vs : List V), ioA (falses vs.length) vs = []
  | [] => rfl
  | v :: vs => by show ioA (false :: falses vs.length) (v :: vs) = []; cases v <;> exact ioF vs
theorem okF {P : Program} {w : World} {K : PySem.W.Frag} {mg : Str → Option Value} {base : Heap} {CX : CXT} {k : Nat} {f : Addr} {fd : FuncData} {ps : List Str} {fv : VSpF} (F : FnOk P w K mg base CX k f fd ps (vsp K (falses ps.length) (ofF fv)))
    (len : ∀ ts Q, fv ts Q → ts.length = ps.length) : FnOk P w K mg base CX k f fd ps (vspF K fv) := by
  refine F.imp fun vs H Q E h => ?_
  obtain ⟨G, ts, Qv, vw, rp, hf, kk⟩ := h
  have hl : ps.length = vs.length := (len ts Qv hf).symm.trans rp.length.symm
  rw [hl]
  refine ⟨G, ts, fun rt o => ∃ t, rt = .val t ∧ flatT t = true ∧ Qv t, fun _ _ => False, vw, argsF rp, by rw [ioF]; exact .nil, ⟨Qv, hf, fun t fl q => ⟨t, rfl, fl, q⟩⟩, fun rt o v G' H' F' r q => ?_, fun _ _ _ _ _ _ _ q => q.elim⟩
  · obtain ⟨t, rfl, fl, q⟩ := q
    rw [ioF] at F'
    exact kk t v H' (fun a o e => F'.hh a o e (by simp)) (fun G'' => flat_any r fl) q
/-- looked at, one after another -/
def peeks : List Rf → Env → (List T → Prop) → Prop
  | [], _, Q => Q []
  | r :: rs, γ, Q => peek r γ fun t => peeks rs γ fun ts => Q (t :: ts)
section
variable {K : PySem.W.Frag} {B : Bs} {as : List Addr} {γ : Env} {σ : L2.St} {G H : Hp}
/-- all that is open, settled for a while -/
def openG (as : List Addr) (G H : Hp) : Hp := fun a => match G a with
  | some o => some o
  | none => if a ∈ as then H a else none
theorem openG_same (S : StR K B as γ σ G H) : Same (openG as G H) H ∧ Same G (openG as G H) := by
  refine ⟨fun a o e => ?_, fun a o e => ?_⟩
  · unfold openG at e
    split at e
    · rename_i o' e2; cases e; exact S.vw _ _ e2
    · split at e
      · exact e
      · cases e
  · unfold openG; rw [e]
theorem openG_at {a : Addr} (h1 : a ∈ as) (h2 : G a = none) : openG as G H a = H a := by
  unfold openG; rw [h2]; simp [h1]
theorem MutR.openG {a : Addr} {t : T} (g : Same G (openG as G H)) (e : openG as G H a = H a) (h : MutR K G H a t) : Rp K (openG as G H) (.ref a) t := by
  cases t with
  | lst ts => obtain ⟨acc, q, z⟩ := h; exact .lst (e.trans q) (z.mono g)
  | obj C gs => obtain ⟨dx, fs, q, z⟩ := h; exact .obj (e.trans q) z.1 (z.2.mono g)
  | dk ks => obtain ⟨kvs, q, z⟩ := h; exact .dk (e.trans q) z.1 (z.2.mono g)
  | dt ks => obtain ⟨kvs, q, z⟩ := h; exact .dt (e.trans q) z.1 (z.2.mono g)
  | ho o => exact .ho (e.trans h)
  | _ => exact h.elim
theorem peek_open {r : Rf} {v : V} {Q : T → Prop} (S : StR K B as γ σ G H) (rr : RR K B.ex as G r v) (h : peek r γ Q) : ∃ t, Q t ∧ Rp K (openG as G H) v t := by
  have g := (openG_same S).2
  cases r with
  | val t => exact ⟨t, h, Rp.mono g rr⟩
  | ref k =>
    obtain ⟨a, ea, rfl⟩ := rr
    unfold peek at h
    simp only [nth_eq] at h
    split at h
    · rename_i t e
      obtain ⟨_, q⟩ := S.mem k a _ ea e
      exact ⟨t, h, q.mono g⟩
    · rename_i t e
      obtain ⟨hn, q⟩ := S.mem k a _ ea e
      exact ⟨t, h, q.openG g (openG_at (List.mem_of_getElem? ea) hn)⟩
    · exact h.elim
  | err D gs => exact h.elim
theorem peeks_open (S : StR K B as γ σ G H) : ∀ {rs : List Rf} {vs : List V} {Q : List T → Prop}, RRs K B.ex as G rs vs → peeks rs γ Q → ∃ ts, RpAll K (openG as G H) vs ts ∧ Q ts
  | _, _, Q, .nil, h => ⟨[], .nil, h⟩
  | _, _, Q, .cons a b, h => by
    obtain ⟨t, h, rp⟩ := peek_open S a h
    obtain ⟨ts, rps, q⟩ := peeks_open S b h
    exact ⟨t :: ts, .cons rp rps, q⟩
def callF (fv : VSpF) (rs : List Rf) (γ : Env) (Q : RQ) : Prop := peeks rs γ fun ts => fv ts fun t => Q (.val t) γ
theorem callF_ok {fv : VSpF} {rs : List Rf} {vs : List V} {Q : VK} {E1 : XK} {Qv : RQ} (S : StR K B as γ σ G H) (rr : RRs K B.ex as G rs vs) (h : callF fv rs γ Qv) (k : KontP K B as σ G (rR K B) Q Qv) : vspF K fv vs H Q E1 := by
  obtain ⟨ts, rp, h⟩ := peeks_open S rr h
  exact ⟨_, ts, _, (openG_same S).1, rp, h, fun t v H' x r q => k (.val t) γ as v G H' (List.prefix_refl _) (Same.refl _) (S.grow x) (r G) q⟩
end
/-! ### a promise of either kind, asked with numbered values -/
class VF (K : PySem.W.Frag) (sp : Sp) (w : outParam (List Rf → Env → RQ → XQ → Prop)) : Prop where
  run : ∀ {B : Bs} {as : List Addr} {γ : Env} {σ : L2.St} {G H : Hp} {rs : List Rf} {vs : List V} {Q : VK} {E1 : XK} {Qv : RQ} {Xv : XQ}, StR K B as γ σ G H → RRs K B.ex as G rs vs → w rs γ Qv Xv → KontP K B as σ G (rR K B) Q Qv → KontX K B as σ G E1 Xv → sp vs H Q E1
instance {K : PySem.W.Frag} {ks : List Bool} {fv : VSp} : VF K (vsp K ks fv) (callQ ks fv) := ⟨fun S rr h k kx => call_ok S rr h k kx⟩
instance {K : PySem.W.Frag} {fv : VSpF} : VF K (vspF K fv) (fun rs γ Q _ => callF fv rs γ Q) := ⟨fun S rr h k _ => callF_ok S rr h k⟩
section
variable {K : PySem.W.Frag} {B : Bs} {E : L2.St → XK} {sp : Sp} {wf : List Rf → Env → RQ → XQ → Prop} [hf : VF K sp wf]
def vCall (wf : List Rf → Env → RQ → XQ → Prop) (wa : Env → (List Rf → Env → Prop) → XQ → Prop) : VW := fun γ Q X => wa γ (fun rs γ1 => wf rs γ1 Q X) X
def vCall0 (wf : List Rf → Env → RQ → XQ → Prop) (wa : Env → (List Rf → Env → Prop) → XQ → Prop) : VW := fun γ Q X => wa γ (fun rs γ1 => wf rs γ1 Q noX) X
section
variable {t : TA} {wa : Env → (List Rf → Env → Prop) → XQ → Prop}
instance [ha : VA K B E t wa] : VE K B E (tCall sp [] E0 t) (vCall0 wf wa) where
  run := fun {as γ σ G H Q Qv Xv} S h k kx => by
    refine ha.run S h (fun rs γ1 as1 vs G1 H1 p1 g1 S1 rr1 q1 => ?_) kx
    rw [List.append_nil]
    exact hf.run S1 rr1 q1 (k.mono p1 g1) kxno
instance {E1 : XK} [ha : VA K B (fun _ => E1) t wa] : VE K B (fun _ => E1) (tCall sp [] E1 t) (vCall wf wa) where
  run := fun {as γ σ G H Q Qv Xv} S h k kx => by
    refine ha.run S h (fun rs γ1 as1 vs G1 H1 p1 g1 S1 rr1 q1 => ?_) kx
    rw [List.append_nil]
    exact hf.run S1 rr1 q1 (k.mono p1 g1) (kx.mono p1 g1)
instance {W : WX} [ha : VA K B (WE W) t wa] : VE K B (WE W) (tCallS sp (WE W) t) (vCall wf wa) where
  run := fun {as γ σ G H Q Qv Xv} S h k kx => by
    refine ha.run S h (fun rs γ1 as1 vs G1 H1 p1 g1 S1 rr1 q1 => ?_) kx
    exact hf.run S1 rr1 q1 (k.mono p1 g1) (kx.mono p1 g1)
end
/-! ### o.m(..), o.p -/
def isO (C : Addr) (m : Str) (t : T) : Prop := match t with
  | .obj C' gs => C' = C ∧ gs.lookup m = none
  | _ => False
theorem look_none {κ : Type} [BEq κ] {f : κ} : ∀ {fs : List (κ × V)} {gs : List (κ × T)}, fs.map Prod.fst = gs.map Prod.fst → gs.lookup f = none → fs.lookup f = none
  | [], [], _, _ => rfl
  | [], _ :: _, h, _ => by cases h
  | _ :: _, [], h, _ => by cases h
  | (n, v) :: fs, (m, u) :: gs, h, e => by
    simp only [List.map_cons, List.cons.injEq] at h
    obtain ⟨rfl, h⟩ := h
    unfold List.lookup at e ⊢
    cases hb : f == n with
    | true => rw [hb] at e; cases e
    | false => rw [hb] at e; exact look_none h e
theorem isO_ok {C : Addr} {m : Str} {as : List Addr} {γ : Env} {σ : L2.St} {G H : Hp} {r : Rf} {v : V} (S : StR K B as γ σ G H) (rr : RR K B.ex as G r v) (h : peek r γ (isO C m)) : ∃ a dx fs, v = .ref a ∧ H a = some (.ins C dx fs) ∧ fs.lookup m = none := by
  obtain ⟨t, q, z⟩ := peek_rp S rr h
  unfold isO at q
  split at q
  · obtain ⟨rfl, q⟩ := q
    cases z with | obj e e2 _ => exact ⟨_, _, _, rfl, e, look_none e2 q⟩
  · exact q.elim
def vMeth0 (C : Addr) (m : Str) (wf : List Rf → Env → RQ → XQ → Prop) (wo : VW) (wa : Env → (List Rf → Env → Prop) → XQ → Prop) : VW := fun γ Q X => wo γ (fun r γ1 => peek r γ1 (isO C m) ∧ wa γ1 (fun rs γ2 => wf (r :: rs) γ2 Q noX) X) X
def vMeth (C : Addr) (m : Str) (wf : List Rf → Env → RQ → XQ → Prop) (wo : VW) (wa : Env → (List Rf → Env → Prop) → XQ → Prop) : VW := fun γ Q X => wo γ (fun r γ1 => peek r γ1 (isO C m) ∧ wa γ1 (fun rs γ2 => wf (r :: rs) γ2 Q X) X) X
section
variable {C : Addr} {m : Str} {to : TE} {wo : VW} {t : TA} {wa : Env → (List Rf → Env → Prop) → XQ → Prop}
instance [ho : VE K B E to wo] [ha : VA K B E t wa] : VE K B E (tMeth C m sp [] E0 to t) (vMeth0 C m wf wo wa) where
  run := fun {as γ σ G H Q Qv Xv} S h k kx => by
    refine ho.run S h (fun r γ1 as1 v G1 H1 p1 g1 S1 rr1 q1 => ?_) kx
    obtain ⟨a, dx, fs, rfl, e1, e2⟩ := isO_ok S1 rr1 q1.1
    refine ⟨a, dx, fs, rfl, e1, e2, ha.run S1 q1.2 (fun rs γ2 as2 vs G2 H2 p2 g2 S2 rr2 q2 => ?_) (kx.mono p1 g1)⟩
    rw [List.append_nil]
    exact hf.run S2 (.cons (RR.mono rr1 p2 g2) rr2) q2 ((k.mono p1 g1).mono p2 g2) kxno
instance {E1 : XK} [ho : VE K B (fun _ => E1) to wo] [ha : VA K B (fun _ => E1) t wa] : VE K B (fun _ => E1) (tMeth C m sp [] E1 to t) (vMeth C m wf wo wa) where
  run := fun {as γ σ G H Q Qv Xv} S h k kx => by
    refine ho.run S h (fun r γ1 as1 v G1 H1 p1 g1 S1 rr1 q1 => ?_) kx
    obtain ⟨a, dx, fs, rfl, e1, e2⟩ := isO_ok S1 rr1 q1.1
    refine ⟨a, dx, fs, rfl, e1, e2, ha.run S1 q1.2 (fun rs γ2 as2 vs G2 H2 p2 g2 S2 rr2 q2 => ?_) (kx.mono p1 g1)⟩
    rw [List.append_nil]
    exact hf.run S2 (.cons (RR.mono rr1 p2 g2) rr2) q2 ((k.mono p1 g1).mono p2 g2) ((kx.mono p1 g1).mono p2 g2)
def isC (C : Addr) (t : T) : Prop := match t with
  | .obj C' _ => C' = C
  | _ => False
theorem isC_ok {C : Addr} {as : List Addr} {γ : Env} {σ : L2.St} {G H : Hp} {r : Rf} {v : V} (S : StR K B as γ σ G H) (rr : RR K B.ex as G r v) (h : peek r γ (isC C)) : ∃ a dx fs, v = .ref a ∧ H a = some (.ins C dx fs) := by
  obtain ⟨t, q, z⟩ := peek_rp S rr h
  unfold isC at q
  split at q
  · obtain rfl := q
    cases z with | obj e _ _ => exact ⟨_, _, _, rfl, e⟩
  · exact q.elim
def vProp (C : Addr) (wf : List Rf → Env → RQ → XQ → Prop) (wo : VW) : VW := fun γ Q X => wo γ (fun r γ1 => peek r γ1 (isC C) ∧ wf [r] γ1 Q noX) X
instance [ho : VE K B E to wo] : VE K B E (tProp C sp [] E0 to) (vProp C wf wo) where
  run := fun {as γ σ G H Q Qv Xv} S h k kx => by
    refine ho.run S h (fun r γ1 as1 v G1 H1 p1 g1 S1 rr1 q1 => ?_) kx
    obtain ⟨a, dx, fs, rfl, e1⟩ := isC_ok S1 rr1 q1.1
    exact ⟨a, dx, fs, rfl, e1, hf.run S1 (.cons rr1 .nil) q1.2 (k.mono p1 g1) kxno⟩
/-- C.m(..), a staticmethod -/
def vStat0 (C : Addr) (wf : List Rf → Env → RQ → XQ → Prop) (wo : VW) (wa : Env → (List Rf → Env → Prop) → XQ → Prop) : VW := fun γ Q X => wo γ (fun r γ1 => r = .val (.cls C) ∧ wa γ1 (fun rs γ2 => wf rs γ2 Q noX) X) X
instance [ho : VE K B E to wo] [ha : VA K B E t wa] : VE K B E (tStat C sp (fun _ => E0) to t) (vStat0 C wf wo wa) where
  run := fun {as γ σ G H Q Qv Xv} S h k kx => by
    refine ho.run S h (fun r γ1 as1 v G1 H1 p1 g1 S1 rr1 q1 => ?_) kx
    obtain ⟨rfl, q1⟩ := q1
    have rr1 : Rp K G1 v (.cls C) := rr1
    cases rr1
    refine ⟨rfl, ha.run S1 q1 (fun rs γ2 as2 vs G2 H2 p2 g2 S2 rr2 q2 => ?_) (kx.mono p1 g1)⟩
    exact hf.run S2 rr2 q2 ((k.mono p1 g1).mono p2 g2) kxno
def vStat (C : Addr) (wf : List Rf → Env → RQ → XQ → Prop) (wo : VW) (wa : Env → (List Rf → Env → Prop) → XQ → Prop) : VW := fun γ Q X => wo γ (fun r γ1 => r = .val (.cls C) ∧ wa γ1 (fun rs γ2 => wf rs γ2 Q X) X) X
instance [ho : VE K B E to wo] [ha : VA K B E t wa] : VE K B E (tStat C sp E to t) (vStat C wf wo wa) where
  run := fun {as γ σ G H Q Qv Xv} S h k kx => by
    refine ho.run S h (fun r γ1 as1 v G1 H1 p1 g1 S1 rr1 q1 => ?_) kx
    obtain ⟨rfl, q1⟩ := q1
    have rr1 : Rp K G1 v (.cls C) := rr1
    cases rr1
    refine ⟨rfl, ha.run S1 q1 (fun rs γ2 as2 vs G2 H2 p2 g2 S2 rr2 q2 => ?_) (kx.mono p1 g1)⟩
    exact hf.run S2 rr2 q2 ((k.mono p1 g1).mono p2 g2) ((kx.mono p1 g1).mono p2 g2)
/-! ### C(..) -/
def vMake0 (C : Addr) (wf : List Rf → Env → RQ → XQ → Prop) (wa : Env → (List Rf → Env → Prop) → XQ → Prop) : VW := fun γ Q X => wa γ (fun rs γ1 => wf (.ref γ1.mem.length :: rs) (γ1.push (.mu (.obj C []))) (fun r γ2 => r = .val .non ∧ Q (.ref γ1.mem.length) γ2) noX) X
def vMake (C : Addr) (wf : List Rf → Env → RQ → XQ → Prop) (wa : Env → (List Rf → Env → Prop) → XQ → Prop) : VW := fun γ Q X => wa γ (fun rs γ1 => wf (.ref γ1.mem.length :: rs) (γ1.push (.mu (.obj C []))) (fun r γ2 => r = .val .non ∧ Q (.ref γ1.mem.length) γ2) X) X
theorem make_ok {as : List Addr} {γ : Env} {σ : L2.St} {G H : Hp} {rs : List Rf} {vs : List V} {Q : VK} {E1 : XK} {Qv : RQ} {Xv : XQ} {x dx : Addr} (S : StR K B as γ σ G H) (rr : RRs K B.ex as G rs vs)
    (h : wf (.ref γ.mem.length :: rs) (γ.push (.mu (.obj C []))) (fun r γ2 => r = .val .non ∧ Qv (.ref γ.mem.length) γ2) Xv) (k : KontP K B as σ G (rR K B) Q Qv) (kx : KontX K B as σ G E1 Xv) (hx : H x = none) (hd : H dx = none) (hne : dx ≠ x) :
    sp (.ref x :: vs) (L2.upd (L2.upd H dx (.own x)) x (.ins C dx [])) (fun v H2 => v = .non ∧ Q (.ref x) H2) E1 := by
  have S1 := S.grow (Same.add (p := dx) (o := .own x) hd)
  have hx1 : (L2.upd H dx (.own x)) x = none := by rw [upd_ne hne.symm]; exact hx
  have S2 := S1.alloc (t := .obj C []) (o := .ins C dx []) hx1 ⟨dx, [], upd_same, rfl, .nil⟩
  have at_ : (as ++ [x])[γ.mem.length]? = some x := by rw [← S.mlen, List.getElem?_append_right (Nat.le_refl _), Nat.sub_self]; rfl
  have pre : as <+: as ++ [x] := List.prefix_append _ _
  refine hf.run (γ := γ.push (.mu (.obj C []))) S2 (Paired.cons (F := RR K B.ex (as ++ [x]) G) (show RR K B.ex (as ++ [x]) G (.ref γ.mem.length) (.ref x) from ⟨x, at_, rfl⟩) (RRs.mono pre (Same.refl _) rr)) h (fun r γ3 as3 v G3 H3 p3 g3 S3 rr3 q3 => ?_) (kx.mono pre (Same.refl _))
  obtain ⟨rfl, q3⟩ := q3
  have rr3 : Rp K G3 v .non := rr3
  cases rr3
  exact ⟨rfl, k (.ref γ.mem.length) _ _ _ _ _ (pre.trans p3) g3 S3 ⟨x, pre_get p3 at_, rfl⟩ q3⟩
instance [ha : VA K B E t wa] : VE K B E (tMake C sp [] E0 t) (vMake0 C wf wa) where
  run := fun {as γ σ G H Q Qv Xv} S h k kx => by
    refine ha.run S h (fun rs γ1 as1 vs G1 H1 p1 g1 S1 rr1 q1 => ?_) kx
    intro x dx hx hd hne
    rw [List.append_nil]
    exact make_ok S1 rr1 q1 (k.mono p1 g1) kxno hx hd hne
instance {E1 : XK} [ha : VA K B (fun _ => E1) t wa] : VE K B (fun _ => E1) (tMake C sp [] E1 t) (vMake C wf wa) where
  run := fun {as γ σ G H Q Qv Xv} S h k kx => by
    refine ha.run S h (fun rs γ1 as1 vs G1 H1 p1 g1 S1 rr1 q1 => ?_) kx
    intro x dx hx hd hne
    rw [List.append_nil]
    exact make_ok S1 rr1 q1 (k.mono p1 g1) (kx.mono p1 g1) hx hd hne
instance {W : WX} [ha : VA K B (WE W) t wa] : VE K B (WE W) (tMakeS C sp (WE W) t) (vMake C wf wa) where
  run := fun {as γ σ G H Q Qv Xv} S h k kx => by
    refine ha.run S h (fun rs γ1 as1 vs G1 H1 p1 g1 S1 rr1 q1 => ?_) kx
    intro x dx hx hd hne
    exact make_ok S1 rr1 q1 (k.mono p1 g1) (kx.mono p1 g1) hx hd hne
end
/-! ### own operators -/
def vOwn2 (C : Addr) (wf : List Rf → Env → RQ → XQ → Prop) : Rf → Rf → VW := fun r1 r2 γ Q X => peek r1 γ (isC C) ∧ peek r2 γ (isC C) ∧ wf [r1, r2] γ Q X
def vOwn20 (C : Addr) (wf : List Rf → Env → RQ → XQ → Prop) : Rf → Rf → VW := fun r1 r2 γ Q _ => peek r1 γ (isC C) ∧ peek r2 γ (isC C) ∧ wf [r1, r2] γ Q noX
def vOwnI (C : Addr) (wf : List Rf → Env → RQ → XQ → Prop) : Rf → Rf → VW := fun r1 r2 γ Q _ => peek r1 γ (isC C) ∧ peek r2 γ (fun t => match t with
  | .int _ => True
  | _ => False) ∧ wf [r1, r2] γ Q noX
def blR (neg : Bool) (Q : RQ) : RQ := fun r γ => peek r γ fun t => match t with
  | .bl b => Q (.val (.bl (nb neg b))) γ
  | _ => False
def vOwnEq (C : Addr) (neg : Bool) (wf : List Rf → Env → RQ → XQ → Prop) : Rf → Rf → VW := fun r1 r2 γ Q _ => peek r1 γ (isC C) ∧ peek r2 γ (isC C) ∧ wf [r1, r2] γ (blR neg Q) noX
def vOwnIn (C : Addr) (neg : Bool) (wf : List Rf → Env → RQ → XQ → Prop) : Rf → Rf → VW := fun r1 r2 γ Q _ => peek r2 γ (isC C) ∧ wf [r2, r1] γ (blR neg Q) noX
section
variable {C : Addr}
instance : V2 K B E (rOwnC C sp E0) (vOwn20 C wf) where
  run := fun {as γ σ G H x y rx ry Q Qv Xv} S r1 r2 h k _ => by
    obtain ⟨a, dx, fs, rfl, e1⟩ := isC_ok S r1 h.1
    obtain ⟨b, dy, gs, rfl, e2⟩ := isC_ok S r2 h.2.1
    exact ⟨a, b, dx, dy, fs, gs, rfl, rfl, e1, e2, hf.run S (.cons r1 (.cons r2 .nil)) h.2.2 k kxno⟩
instance {E1 : XK} : V2 K B (fun _ => E1) (rOwnC C sp E1) (vOwn2 C wf) where
  run := fun {as γ σ G H x y rx ry Q Qv Xv} S r1 r2 h k kx => by
    obtain ⟨a, dx, fs, rfl, e1⟩ := isC_ok S r1 h.1
    obtain ⟨b, dy, gs, rfl, e2⟩ := isC_ok S r2 h.2.1
    exact ⟨a, b, dx, dy, fs, gs, rfl, rfl, e1, e2, hf.run S (.cons r1 (.cons r2 .nil)) h.2.2 k kx⟩
instance {W : WX} {ta tb : TE} {wa wb : VW} [ha : VE K B (WE W) ta wa] [hb : VE K B (WE W) tb wb] : VE K B (WE W) (tOpS (fun σ => rOwnC C sp (WE W σ)) ta tb) (vOp (vOwn2 C wf) wa wb) where
  run := fun {as γ σ G H Q Qv Xv} S h k kx => by
    refine ha.run S h (fun r1 γ1 as1 v1 G1 H1 p1 g1 S1 rr1 q1 => ?_) kx
    refine hb.run S1 q1 (fun r2 γ2 as2 v2 G2 H2 p2 g2 S2 rr2 q2 => ?_) (kx.mono p1 g1)
    have rr1 := RR.mono rr1 p2 g2
    obtain ⟨a, dx, fs, rfl, e1⟩ := isC_ok S2 rr1 q2.1
    obtain ⟨b, dy, gs, rfl, e2⟩ := isC_ok S2 rr2 q2.2.1
    exact ⟨a, b, dx, dy, fs, gs, rfl, rfl, e1, e2, hf.run S2 (.cons rr1 (.cons rr2 .nil)) q2.2.2 ((k.mono p1 g1).mono p2 g2) ((kx.mono p1 g1).mono p2 g2)⟩
instance : V2 K B E (rOwnI C sp E0) (vOwnI C wf) where
  run := fun {as γ σ G H x y rx ry Q Qv Xv} S r1 r2 h k _ => by
    obtain ⟨a, dx, fs, rfl, e1⟩ := isC_ok S r1 h.1
    obtain ⟨t, q, z⟩ := peek_ok S r2 h.2.1
    split at q
    · exact ⟨a, dx, fs, _, rfl, int_any z, e1, by rw [← int_any z]; exact hf.run S (.cons r1 (.cons r2 .nil)) h.2.2 k kxno⟩
    · exact q.elim
theorem blR_k {neg : Bool} {as : List Addr} {σ : L2.St} {G : Hp} {Q : VK} {Qv : RQ} (k : KontP K B as σ G (rR K B) Q Qv) : KontP K B as σ G (rR K B) (fun v H' => ∃ c, v = .bl c ∧ Q (.bl (if neg = true then !c else c)) H') (blR neg Qv) := fun r γ' as' v G' H' p g S rr q => by
  obtain ⟨t, q, z⟩ := peek_ok S rr q
  split at q
  · refine ⟨_, bl_any z, ?_⟩
    have e : ∀ b : Bool, (if neg = true then !b else b) = nb neg b := fun b => by cases neg <;> rfl
    rw [e]
    exact k (.val (.bl _)) _ _ _ _ _ p g S (Rp.bl _) q
  · exact q.elim
instance : V2 K B E (rEqOwn C sp E0 false) (vOwnEq C false wf) where
  run := fun {as γ σ G H x y rx ry Q Qv Xv} S r1 r2 h k _ => by
    obtain ⟨a, dx, fs, rfl, e1⟩ := isC_ok S r1 h.1
    obtain ⟨b, dy, gs, rfl, e2⟩ := isC_ok S r2 h.2.1
    exact ⟨a, b, dx, dy, fs, gs, rfl, rfl, e1, e2, hf.run S (.cons r1 (.cons r2 .nil)) h.2.2 (blR_k k) kxno⟩
instance : V2 K B E (rEqOwn C sp E0 true) (vOwnEq C true wf) where
  run := fun {as γ σ G H x y rx ry Q Qv Xv} S r1 r2 h k _ => by
    obtain ⟨a, dx, fs, rfl, e1⟩ := isC_ok S r1 h.1
    obtain ⟨b, dy, gs, rfl, e2⟩ := isC_ok S r2 h.2.1
    exact ⟨a, b, dx, dy, fs, gs, rfl, rfl, e1, e2, hf.run S (.cons r1 (.cons r2 .nil)) h.2.2 (blR_k k) kxno⟩
instance : V2 K B E (rInOwn C sp E0 false) (vOwnIn C false wf) where
  run := fun {as γ σ G H x y rx ry Q Qv Xv} S r1 r2 h k _ => by
    obtain ⟨a, dx, fs, rfl, e1⟩ := isC_ok S r2 h.1
    exact ⟨a, dx, fs, rfl, e1, hf.run S (.cons r2 (.cons r1 .nil)) h.2 (blR_k k) kxno⟩
instance : V2 K B E (rInOwn C sp E0 true) (vOwnIn C true wf) where
  run := fun {as γ σ G H x y rx ry Q Qv Xv} S r1 r2 h k _ => by
    obtain ⟨a, dx, fs, rfl, e1⟩ := isC_ok S r2 h.1
    exact ⟨a, dx, fs, rfl, e1, hf.run S (.cons r2 (.cons r1 .nil)) h.2 (blR_k k) kxno⟩
def vNegOwn (C : Addr) (wf : List Rf → Env → RQ → XQ → Prop) : Rf → VW := fun r γ Q _ => peek r γ (isC C) ∧ wf [r] γ Q noX
instance : V1 K B E (rNegOwn C sp E0) (vNegOwn C wf) where
  run := fun {as γ σ G H x rx Q Qv Xv} S r1 h k _ => by
    obtain ⟨a, dx, fs, rfl, e1⟩ := isC_ok S r1 h.1
    exact ⟨a, dx, fs, rfl, e1, hf.run S (.cons r1 .nil) h.2 k kxno⟩
def vStrOwn (C : Addr) (wf : List Rf → Env → RQ → XQ → Prop) : List Rf → VW := fun rs γ Q _ => arg1 rs fun r => peek r γ (isC C) ∧ wf [r] γ (fun r2 γ2 => peek r2 γ2 (fun t => match t with
  | .str _ => True
  | _ => False) ∧ Q r2 γ2) noX
instance : VC K B E (rStrOwn C sp E0) (vStrOwn C wf) where
  run := fun {as γ σ G H vs rs Q Qv Xv} S rr h k _ => by
    unfold vStrOwn arg1 at h
    split at h
    · cases rr with | cons r1 b =>
      cases b
      obtain ⟨a, dx, fs, rfl, e1⟩ := isC_ok S r1 h.1
      refine ⟨a, dx, fs, rfl, e1, hf.run S (.cons r1 .nil) h.2 (fun r γ' as' v G' H' p g S' rr q => ?_) kxno⟩
      obtain ⟨t, q1, z⟩ := peek_ok S' rr q.1
      split at q1
      · exact ⟨_, (str_any z).1, k _ _ _ _ _ _ p g S' rr q.2⟩
      · exact q1.elim
    · exact h.elim
end
end
end VL
set_option Elab.async false
set_option linter.all false
set_option maxRecDepth 100000
set_option maxHeartbeats 4000000
/-! readings over values: fields of instances, errors, try, dicts -/
namespace VL
open PySem PySem.Spec PyProof.Rows L2 XR
section
variable {K : PySem.W.Frag} {B : Bs} {E : L2.St → XK}
/-! ### self.f = e, of an open instance -/
def putG (f : Str) (t : T) : List (Str × T) → List (Str × T)
  | [] => [(f, t)]
  | (g, x) :: r => match decide (g = f) with
    | true => (g, t) :: r
    | false => (g, x) :: putG f t r
theorem putG_rp {G : Hp} {f : Str} {t : T} {v : V} (rp : Rp K G v t) : ∀ {fs : List (Str × V)} {gs : List (Str × T)}, RpF K G fs gs → RpF K G (putF f v fs) (putG f t gs)
  | [], [], _ => ⟨rfl, .cons rp .nil⟩
  | [], _ :: _, h => by cases h.1
  | _ :: _, [], h => by cases h.1
  | (n, x) :: fs, (m, u) :: gs, h => by
    have h1 := h.1
    simp only [List.map_cons, List.cons.injEq] at h1
    obtain ⟨rfl, h1⟩ := h1
    have h2 := h.2
    cases h2 with | cons a b =>
    unfold putF putG
    by_cases e : n = f
    · rw [if_pos e, decide_eq_true e]
      exact ⟨by simp only [List.map_cons]; rw [h1], .cons rp b⟩
    · rw [if_neg e, decide_eq_false e]
      obtain ⟨q1, q2⟩ := putG_rp rp (fs := fs) (gs := gs) ⟨h1, b⟩
      exact ⟨by simp only [List.map_cons]; rw [q1], .cons a q2⟩
def setF (K : PySem.W.Frag) (r : Rf) (f : Str) (t : T) (γ : Env) (Q : Env → Prop) : Prop := match r with
  | .ref k => match nth γ.mem k with
    | some (.mu (.obj C gs)) => (Cls K C ∧ NoAttr K C f) ∧ gs.length < 1000 ∧ Q (γ.put k (.mu (.obj C (putG f t gs))))
    | _ => False
  | _ => False
def vSFld (K : PySem.W.Frag) (f : Str) (wo wv : VW) : VSW := fun γ D => wv γ (fun rv γ1 => wo γ1 (fun ro γ2 => toT rv γ2 fun t γ3 => setF K ro f t γ3 D.nx) D.ex) D.ex
instance {f : Str} {to tv : TE} {wo wv : VW} [ho : VE K B E to wo] [hv : VE K B E tv wv] : VS K B E (sFld K to tv f) (vSFld K f wo wv) where
  run := fun {as γ σ G H D Dv} S h k => by
    refine hv.run S h (fun r1 γ1 as1 v1 G1 H1 p1 g1 S1 rr1 q1 => ?_) (k.ex σ)
    refine ho.run S1 q1 (fun r2 γ2 as2 v2 G2 H2 p2 g2 S2 rr2 q2 => ?_) ((k.ex σ).mono p1 g1)
    obtain ⟨t, γ3, G3, g3, S3, rp, q3⟩ := toT_ok S2 (RR.mono rr1 p2 g2) q2
    unfold setF at q3
    split at q3
    · rename_i kk
      obtain ⟨a, ea, rfl⟩ := rr2
      simp only [nth_eq] at q3
      split at q3
      · rename_i C gs e
        obtain ⟨⟨c1, c2⟩, c3, q3⟩ := q3
        obtain ⟨_, dx, fs, ha, rf⟩ := S3.mem _ a _ ea e
        have hl : fs.length = gs.length := by
          have := congrArg List.length rf.1
          simpa using this
        refine ⟨a, C, dx, fs, rfl, ha, c1, c2, by omega, ?_⟩
        have S4 := S3.write (o := .ins C dx (putF f v1 fs)) (t := .obj C (putG f t gs)) e ea ⟨dx, _, upd_same, putG_rp rp rf⟩
        exact k.nx _ _ _ _ _ (p1.trans p2) ((g1.trans g2).trans g3) S4 q3
      · exact q3.elim
    · exact q3.elim
/-! ### errors: made and raised -/
def fsOf {α : Type} : List Str → List α → List (Str × α) → Option (List (Str × α))
  | [], [], l => some l
  | n :: ns, v :: vs, l => fsOf ns vs ((n, v) :: l)
  | _, _, _ => none
theorem fsOf_rp {G : Hp} : ∀ {ns : List Str} {vs : List V} {ts : List T} {l : List (Str × V)} {l2 : List (Str × T)} {o : List (Str × T)}, RpAll K G vs ts → RpF K G l l2 → fsOf ns ts l2 = some o → ∃ p, fsOf ns vs l = some p ∧ RpF K G p o
  | [], _, _, l, l2, o, .nil, h, e => by
    have e : some l2 = some o := e
    cases e
    exact ⟨l, rfl, h⟩
  | [], _, _, l, l2, o, .cons _ _, h, e => by cases e
  | n :: ns, _, _, l, l2, o, .nil, h, e => by cases e
  | n :: ns, _, _, l, l2, o, .cons a b, h, e => fsOf_rp (ns := ns) (l := (n, _) :: l) (l2 := (n, _) :: l2) b ⟨by simp only [List.map_cons]; rw [h.1], .cons a h.2⟩ e
/-- the promise of an error's __init__ -/
def spErr (C : Addr) (ns : List Str) : Sp := spEx C fun ws => fsOf ns ws []
theorem mk_exN {C : Addr} {fs : List V → Option (List (Str × V))} {vs : List V} {l : List (Str × V)} {H : Hp} {E : XK} (hl : vs.length ≤ 1000) (hf : fs vs = some l) (k : ∀ d H', H d = none → H' d = some (.xd l) → Same H H' → E (.ref C) (some d) H') :
    vs.length ≤ 1000 ∧ ∀ a, H a = none → spEx C fs (.ref a :: (vs ++ [])) (L2.upd H a (exo a C none))
      (fun v H2 => v = .non ∧ ∃ (d : Addr) (g : List (Str × V)), H2 a = some (exo a C (some d)) ∧ H2 d = some (exd d g) ∧ H d = none ∧ E (.ref C) (some d) (L2.upd (del H2 a) d (.xd g))) (fun _ _ _ => False) := by
  refine ⟨hl, fun a ha => ⟨a, vs, l, by rw [List.append_nil], hf, upd_same, fun d H' hd hda ea ed x => ⟨rfl, d, l, ea, ed, ?_, k d _ ?_ upd_same fun q o e => ?_⟩⟩⟩
  · rw [upd_ne hda] at hd
    exact hd
  · rw [upd_ne hda] at hd
    exact hd
  · have hqa : q ≠ a := ne_of_none e ha
    have hqd : q ≠ d := fun z => by
      rw [upd_ne hda] at hd
      rw [z, hd] at e
      cases e
    rw [upd_ne hqd, del_ne hqa]
    refine x q o hqa ?_
    rw [upd_ne hqa]
    exact e
def tRaise (W : WX) (t : L2.St → Hp → XK → Prop) : TS := fun _ σ H => t σ H fun cls d H' => W cls d σ H'
theorem ps_raiseU {X : Cx} {W : WX} {e : Expr} {t : L2.St → Hp → XK → Prop} {pos : Pos} (hc : X.calm = true) (tk : Takes X W) (he : PMk X e t) : PS X (.Raise (some e) none pos) (tRaise W t) := ps_raise hc tk he
theorem err_view {as : List Addr} {γ : Env} {σ : L2.St} {G H H' : Hp} {d : Addr} {fs : List (Str × V)} (S : StR K B as γ σ G H) (hd : H d = none) (hd' : H' d = some (.xd fs)) (x : Same H H') : StR K B as γ σ (L2.upd G d (.xd fs)) H' ∧ Same G (L2.upd G d (.xd fs)) := by
  have g : Same G (L2.upd G d (.xd fs)) := Same.add (S.newG hd)
  refine ⟨(S.grow x).view g (fun a o e => ?_) fun a z1 z2 => ?_, g⟩
  · by_cases h : a = d
    · subst h; rw [upd_same] at e; cases e; exact hd'
    · rw [upd_ne h] at e; exact x _ _ (S.vw _ _ e)
  · by_cases h : a = d
    · subst h; exact ⟨S.new0 hd, S.newA hd⟩
    · rw [upd_ne h] at z2; exact absurd z1 z2
def vRaise (C : Addr) (ns : List Str) (wa : Env → (List Rf → Env → Prop) → XQ → Prop) : VSW := fun γ D => wa γ (fun rs γ1 => toTs rs γ1 fun ts γ2 => ts.length ≤ 1000 ∧ isS (fsOf ns ts []) fun l => D.ex (C, l) γ2) D.ex
theorem raise_ok {C : Addr} {ns : List Str} {ta : TA} {wa : Env → (List Rf → Env → Prop) → XQ → Prop} [ha : VA K B E ta wa] {as : List Addr} {γ : Env} {σ : L2.St} {G H : Hp} {D : Ends} {Dv : VEnds} (S : StR K B as γ σ G H) (h : vRaise C ns wa γ Dv) (k : KontD K B E as G D Dv) :
    tMkO C (spErr C ns) [] ta σ H fun cls d H' => E σ cls d H' := by
  refine ha.run S h (fun rs γ1 as1 vs G1 H1 p1 g1 S1 rr1 q1 => ?_) (k.ex σ)
  obtain ⟨ts, γ2, G2, g2, S2, rp, hl, q⟩ := toTs_ok S1 rr1 q1
  obtain ⟨l, e, q⟩ := isS_e q
  obtain ⟨p, ep, rf⟩ := fsOf_rp (ns := ns) (l := []) (l2 := []) rp ⟨rfl, .nil⟩ e
  refine mk_exN (by rw [rp.length]; exact hl) ep fun d H' hd hd' x => ?_
  obtain ⟨S3, g3⟩ := err_view S2 hd hd' x
  exact k.ex σ (C, l) _ _ _ _ _ p1 ((g1.trans g2).trans g3) S3 (.inr ⟨d, p, rfl, upd_same, rf.mono g3⟩) q
instance {E1 : XK} {C : Addr} {ns : List Str} {ta : TA} {wa : Env → (List Rf → Env → Prop) → XQ → Prop} [ha : VA K B (fun _ => E1) ta wa] : VS K B (fun _ => E1) (tRaise (fun cls d _ H => E1 cls d H) (tMkO C (spErr C ns) [] ta)) (vRaise C ns wa) where
  run := fun {as γ σ G H D Dv} S h k => raise_ok (E := fun _ => E1) (ns := ns) S h k
instance {W : WX} {C : Addr} {ns : List Str} {ta : TA} {wa : Env → (List Rf → Env → Prop) → XQ → Prop} [ha : VA K B (WE W) ta wa] : VS K B (WE W) (tRaise W (tMkO C (spErr C ns) [] ta)) (vRaise C ns wa) where
  run := fun {as γ σ G H D Dv} S h k => raise_ok (E := WE W) (ns := ns) S h k
/-- an error without fields -/
def tMk0 (C : Addr) : L2.St → Hp → XK → Prop := fun _ H Q => Q (.ref C) none H
def vRaise0 (C : Addr) : VSW := fun γ D => D.ex (C, []) γ
instance {E1 : XK} {C : Addr} : VS K B (fun _ => E1) (tRaise (fun cls d _ H => E1 cls d H) (tMk0 C)) (vRaise0 C) where
  run := fun {as γ σ G H D Dv} S h k => k.ex σ (C, []) _ _ _ _ _ (List.prefix_refl _) (Same.refl _) S (.inl ⟨rfl, rfl⟩) h
instance {W : WX} {C : Addr} : VS K B (WE W) (tRaise W (tMk0 C)) (vRaise0 C) where
  run := fun {as γ σ G H D Dv} S h k => k.ex σ (C, []) _ _ _ _ _ (List.prefix_refl _) (Same.refl _) S (.inl ⟨rfl, rfl⟩) h
/-! ### try -/
def Bs.hot (B : Bs) (a : Addr) (cls : Value) (d : Option Addr) : Bs := ⟨B.G0, B.H0, B.io, (a, cls, d)⟩
def noErr : List (Option Rf) → List (Option Rf)
  | [] => []
  | some (.err _ _) :: r => none :: noErr r
  | some (.val t) :: r => some (.val t) :: noErr r
  | some (.ref k) :: r => some (.ref k) :: noErr r
  | none :: r => none :: noErr r
def Env.noErr (γ : Env) : Env := { γ with sl := VL.noErr γ.sl }
theorem noErr_len : ∀ l, (noErr l).length = l.length
  | [] => rfl
  | some (.err _ _) :: r => congrArg (· + 1) (noErr_len r)
  | some (.val t) :: r => congrArg (· + 1) (noErr_len r)
  | some (.ref k) :: r => congrArg (· + 1) (noErr_len r)
  | none :: r => congrArg (· + 1) (noErr_len r)
theorem noErr_at : ∀ (l : List (Option Rf)) (i : Nat) (r : Rf), (noErr l)[i]? = some (some r) → l[i]? = some (some r) ∧ ∀ D gs, r ≠ .err D gs
  | [], i, r, h => by cases h
  | some (.err _ _) :: l, 0, r, h => by cases h
  | some (.val t) :: l, 0, r, h => by cases h; exact ⟨rfl, fun _ _ z => by cases z⟩
  | some (.ref k) :: l, 0, r, h => by cases h; exact ⟨rfl, fun _ _ z => by cases z⟩
  | none :: l, 0, r, h => by cases h
  | some (.err _ _) :: l, i + 1, r, h => noErr_at l i r h
  | some (.val t) :: l, i + 1, r, h => noErr_at l i r h
  | some (.ref k) :: l, i + 1, r, h => noErr_at l i r h
  | none :: l, i + 1, r, h => noErr_at l i r h
theorem StR.reex {as : List Addr} {γ : Env} {σ : L2.St} {G H : Hp} {B' : Bs} (S : StR K B as γ σ G H) (h1 : B'.G0 = B.G0) (h2 : B'.H0 = B.H0) (h3 : B'.io = B.io) : StR K B' as γ.noErr σ G H := by
  obtain ⟨g0, h0, io, ex⟩ := B
  obtain ⟨g0', h0', io', ex'⟩ := B'
  cases h1; cases h2; cases h3
  refine ⟨S.vw, S.gg, S.out, S.hh, S.nio, S.pre, S.mlen, S.nd, S.fresh, S.mem, S.slen.trans (noErr_len _).symm, fun i r e => ?_⟩
  obtain ⟨e1, e2⟩ := noErr_at _ i r e
  obtain ⟨v, e3, e4⟩ := S.sl i r e1
  refine ⟨v, e3, ?_⟩
  cases r with
  | val t => exact e4
  | ref k => exact e4
  | err D gs => exact absurd rfl (e2 D gs)
def tTry (K : PySem.W.Frag) (c : Value) (i : Nat) (ts : Addr → Value → Option Addr → TS) (tb : WX → TS) : TS := fun D σ H => tb (wAs K c i ts (fun _ _ _ _ => False) D) D σ H
theorem ps_tryU {X : Cx} {x n : Str} {c : Value} {i : Nat} {body suite : List Stmt} {b₀ : Stmt} {np pos pos' : Pos} {tb : WX → TS} {ts : Addr → Value → Option Addr → TS} (hs : X.stack = X.env :: X.outer) (hf : X.env.frame = some X.env.locals) (hN : X.N.Nodup) (hi : X.N[i]? = some n) (hln : X.env.kindOf n = some .local) (hc : Names X x c) (tk : Takes X (fun _ _ _ _ => False))
    (hb : ∀ (W : WX) (pn : List (Addr × Obj)) (xe : Value → Shared → Prop), Takes (X.tr pn xe) W → PassesOwn (model X.prog X.w) X.A X.env xe → PSs (X.tr pn xe) body (tb W))
    (hsu : ∀ (a : Addr) (oe : Obj) (cls : Value) (d : Option Addr) (pn : List (Addr × Obj)), Zc cls d oe → (∃ vs, oe.data = .fields vs) → PSs (X.suite a ((a, oe) :: pn)) (b₀ :: suite) (ts a cls d)) :
    PS X (.Try body [.ExceptHandler (some (.Name x np)) (some n) (b₀ :: suite) pos'] [] [] pos) (tTry X.K c i ts tb) := ps_try_as hs hf hN hi hln hc tk hb hsu
def rtE (Q : RQ) : RQ := fun r γ => match r with
  | .err _ _ => False
  | .val t => Q (.val t) γ.noErr
  | .ref k => Q (.ref k) γ.noErr
def suiteE (i : Nat) (D : VEnds) : VEnds := ⟨fun γ2 => D.nx (γ2.unset i).noErr, rtE D.rt, fun γ2 => D.bk (γ2.unset i).noErr, fun γ2 => D.ct (γ2.unset i).noErr, noX⟩
def vTry (K : PySem.W.Frag) (c : Value) (i : Nat) (wb ws : VSW) : VSW := fun γ D => wb γ ⟨D.nx, D.rt, D.bk, D.ct, fun e γ1 => PySem.W.exmOne K (.ref e.1) c = some true ∧ ws (γ1.noErr.set i (.err e.1 e.2)) (suiteE i D)⟩
instance {c : Value} {i : Nat} {ts : Addr → Value → Option Addr → TS} {tb : WX → TS} {wb ws : VSW} [hb : ∀ W : WX, VS K B (WE W) (tb W) wb] [hs : ∀ (a : Addr) (cls : Value) (d : Option Addr), VS K (B.hot a cls d) E (ts a cls d) ws] : VS K B E (tTry K c i ts tb) (vTry K c i wb ws) where
  run := fun {as γ σ G H D Dv} S h k => by
    refine (hb _).run S h ⟨k.nx, k.bk, k.ct, k.rt, fun σ1 e γ1 as1 d G1 H1 p1 g1 S1 er q1 => ?_⟩
    obtain ⟨em, q1⟩ := q1
    refine ⟨true, em, fun _ a ha => ?_, fun z => by cases z⟩
    have S2 : StR K (B.hot a (.ref e.1) d) as1 γ1.noErr σ1 G1 H1 := S1.reex rfl rfl rfl
    have S3 := S2.store (r := .err e.1 e.2) (v := .ref a) ⟨rfl, rfl, er⟩ i
    have back : ∀ {γ2 : Env} {as2 : List Addr} {σ2 : L2.St} {G2 H2 : Hp}, StR K (B.hot a (.ref e.1) d) as2 γ2 σ2 G2 H2 → StR K B as2 (γ2.unset i).noErr (σ2.set i none) G2 H2 := fun {γ2 as2 σ2 G2 H2} S4 => by
      have S5 := (S4.unset i).slots (σ' := σ2.set i none) (by simp) fun j r e => by
        have e : (γ2.sl.set i none)[j]? = some (some r) := e
        by_cases hj : j = i
        · subst hj
          rcases Nat.lt_or_ge j γ2.sl.length with z | z
          · rw [List.getElem?_set_self z] at e; cases e
          · rw [List.getElem?_eq_none (by simpa using z)] at e; cases e
        · rw [List.getElem?_set_ne (Ne.symm hj)]
      exact S5.reex rfl rfl rfl
    refine (hs a (.ref e.1) d).run (Dv := suiteE i Dv) S3 q1 ⟨fun γ2 as2 σ2 G2 H2 p2 g2 S4 q => ?_, fun γ2 as2 σ2 G2 H2 p2 g2 S4 q => ?_, fun γ2 as2 σ2 G2 H2 p2 g2 S4 q => ?_, fun σ2 r γ2 as2 v G2 H2 p2 g2 S4 rr q => ?_, fun σ2 => kxno⟩
    · exact k.nx _ _ _ _ _ (p1.trans p2) (g1.trans g2) (back S4) q
    · exact k.bk _ _ _ _ _ (p1.trans p2) (g1.trans g2) (back S4) q
    · exact k.ct _ _ _ _ _ (p1.trans p2) (g1.trans g2) (back S4) q
    · have S5 : StR K B as2 γ2.noErr σ2 G2 H2 := S4.reex rfl rfl rfl
      cases r with
      | err D gs => exact q.elim
      | val t => exact k.rt σ2 (.val t) γ2.noErr as2 v G2 H2 (p1.trans p2) (g1.trans g2) S5 rr q
      | ref n => exact k.rt σ2 (.ref n) γ2.noErr as2 v G2 H2 (p1.trans p2) (g1.trans g2) S5 rr q
/-! ### the handled error: its class, its fields -/
def ErrIs (K : PySem.W.Frag) (D : Addr) (c : T) (b : Bool) : Prop := XR.Asks K D ∧ ∃ u, ClR c u ∧ PySem.W.kitOne K (.ref D) u = some b
def vIsE (K : PySem.W.Frag) : List Rf → VW := fun rs γ Q _ => match rs with
  | [.err D _, c] => peek c γ fun tc => ∃ b, ErrIs K D tc b ∧ Q (.val (.bl b)) γ
  | _ => False
instance {a : Addr} {cls : Value} {d : Option Addr} : VC K (B.hot a cls d) E (rIsA K cls d a) (vIsE K) where
  run := fun {as γ σ G H vs rs Q Qv Xv} S rr h k _ => by
    unfold vIsE at h
    split at h
    · cases rr with | cons r1 b =>
      cases b with | cons r2 b =>
      cases b
      obtain ⟨rfl, ec, er⟩ := r1
      obtain ⟨tc, h, z⟩ := peek_rp S r2 h
      obtain ⟨b, ⟨as_, u, hu, hk⟩, q⟩ := h
      have ec : cls = .ref _ := ec
      subst ec
      have kk := kval k S (.bl b) q
      rcases er with ⟨e1, _⟩ | ⟨dd, fs, e1, e2, _⟩
      · have e1 : d = none := e1
        exact .inr ⟨_, _, u, b, rfl, e1, as_, rfl, hu.ok z, hk, kk⟩
      · have e1 : d = some dd := e1
        exact .inl ⟨_, dd, fs, _, u, b, rfl, e1, S.vw _ _ e2, as_, rfl, hu.ok z, hk, kk⟩
    · exact h.elim
def vPf (K : PySem.W.Frag) (n : Str) (wo : VW) : VW := fun γ Q X => wo γ (fun r γ1 => match r with
  | .err D gs => (XfC K D ∧ PySem.W.findIn K (.ref D) n = some none) ∧ isS (gs.lookup n) fun t => Q (.val t) γ1
  | _ => False) X
instance {a : Addr} {cls : Value} {d : Option Addr} {n : Str} {to : TE} {wo : VW} [ho : VE K (B.hot a cls d) E to wo] : VE K (B.hot a cls d) E (tPf K a cls d n to) (vPf K n wo) where
  run := fun {as γ σ G H Q Qv Xv} S h k kx => by
    refine ho.run S h (fun r γ1 as1 v G1 H1 p1 g1 S1 rr q => ?_) kx
    cases r with
    | err D gs =>
      obtain ⟨⟨c1, c2⟩, q⟩ := q
      obtain ⟨t, e, q⟩ := isS_e q
      obtain ⟨rfl, ec, er⟩ := rr
      have ec : cls = .ref D := ec
      subst ec
      rcases er with ⟨_, e1⟩ | ⟨dd, fs, e1, e2, rf⟩
      · subst e1; cases e
      · have e1 : d = some dd := e1
        obtain ⟨v, ev, rv⟩ := lookup_rp rf e
        exact ⟨D, dd, fs, v, rfl, rfl, e1, S1.vw _ _ e2, c1, c2, ev, kval (k.mono p1 g1) S1 rv q⟩
    | val t => exact q.elim
    | ref j => exact q.elim
/-! ### in a suite: defs that raise nothing -/
def vCallQ (wf : List Rf → Env → RQ → XQ → Prop) (wa : Env → (List Rf → Env → Prop) → XQ → Prop) : VW := fun γ Q X => wa γ (fun rs γ1 => wf rs γ1 Q noX) X
instance {sp : Sp} {wf : List Rf → Env → RQ → XQ → Prop} [hf : VF K sp wf] {t : TA} {wa : Env → (List Rf → Env → Prop) → XQ → Prop} [ha : VA K B E t wa] : VE K B E (tCallQ sp t) (vCallQ wf wa) where
  run := fun {as γ σ G H Q Qv Xv} S h k kx => by
    refine ha.run S h (fun rs γ1 as1 vs G1 H1 p1 g1 S1 rr1 q1 => ?_) kx
    exact hf.run S1 rr1 q1 (k.mono p1 g1) kxno
end
section
variable {P : Program} {w : World} {K : PySem.W.Frag} {mg : Str → Option Value} {base : Heap}
theorem okVQ {x qual : Str} {st : Stmt} {f : Addr} {fd : FuncData} {N ps : List Str} {k : Nat} {ks : List Bool} {fv : VSp} (F : Fun K x qual st f fd) (S : FnScope N ps (defScope st)) (hk : ks.length = ps.length) (hN : ps.length ≤ N.length)
    (body : ∀ (cdv : Value) (A : Around) (outer : List PySem.Env) (s : Shared) (H : Hp) (p : Addr × Obj), L2H.RoomH k (A.deeper (envOfC qual (defScope st) s.heap.objs.size f cdv)) →
      ∃ t, PSs (L2H.cxH CX0 P w K mg base N qual (defScope st) f cdv A outer s H E0 p).nox (defBody st) t ∧ ∃ wv, (∀ B : Bs, VS K B (fun _ => E0) t wv) ∧ ∀ (ts : List T) (Qv : Rt → List T → Prop) (Xv : VErr → List T → Prop), fv ts Qv Xv → wv (env0 ks ts (N.length - ps.length)) (endsV Qv)) :
    FnQ P w K mg base (k + 1) f fd ps (fun _ => vsp K ks fv) := by
  refine XR.okQ F S (fun p vs H Q E h => ?_) fun cdv A outer s H vs Q p hr h => ?_
  · obtain ⟨G, ts, Qv, Xv, _, ar, _⟩ := h
    exact ar.len.trans hk
  · obtain ⟨t, hp, wv, hv, go⟩ := body cdv A outer s H p hr
    obtain ⟨G, ts, Qv, Xv, vw, ar, nd, hf, kr, kx⟩ := h
    refine ⟨t, hp, ?_⟩
    have hl : vs.length = ps.length := ar.len.trans hk
    have S0 := start_ok (N := N) vw ar nd (by omega)
    have q := go ts Qv Xv hf
    rw [← hl] at q
    refine (hv _).run S0 q ⟨fun γ' as' σ' G' H' _ _ S' z => ?_, fun _ _ _ _ _ _ _ _ z => z.elim, fun _ _ _ _ _ _ _ _ z => z.elim, fun σ' r γ' as' v G' H' _ _ S' rr z => ?_, fun σ' => kxno⟩
    · obtain ⟨o, f, z⟩ := fin_of S' z
      exact kr (.val .non) _ _ _ _ f Rp.non z
    · obtain ⟨rt, o, f, rr, z⟩ := rt_of S' rr z
      exact kr _ _ _ _ _ f rr z
/-! ### a def that is handed the handled error -/
def vspE (K : PySem.W.Frag) (fv : Addr → List (Str × T) → (T → Prop) → Prop) : SpQ := fun p vs H Q _ => ∃ (cls : Value) (d : Option Addr) (D : Addr) (gs : List (Str × T)) (G : Hp) (Qv : T → Prop), vs = [.ref p.1] ∧ Zc cls d p.2 ∧ (∃ us, p.2.data = .fields us) ∧ cls = .ref D ∧ ErrF K G d gs ∧ Same G H ∧ fv D gs Qv ∧
  ∀ (t : T) (v : V) (H' : Hp), Same H H' → (∀ G' : Hp, Rp K G' v t) → Qv t → Q v H'
def envE (D : Addr) (gs : List (Str × T)) (more : Nat) : Env := ⟨0, some (.err D gs) :: nones more, []⟩
theorem okVE {x qual : Str} {st : Stmt} {f : Addr} {fd : FuncData} {N : List Str} {pn : Str} {k : Nat} {fv : Addr → List (Str × T) → (T → Prop) → Prop} (F : Fun K x qual st f fd) (S : FnScope N [pn] (defScope st)) (hN : 1 ≤ N.length)
    (body : ∀ (cdv : Value) (A : Around) (outer : List PySem.Env) (s : Shared) (H : Hp) (p : Addr × Obj) (cls : Value) (d : Option Addr), Zc cls d p.2 → (∃ us, p.2.data = .fields us) → L2H.RoomH k (A.deeper (envOfC qual (defScope st) s.heap.objs.size f cdv)) →
      ∃ t, PSs (L2H.cxH CX0 P w K mg base N qual (defScope st) f cdv A outer s H E0 p).nox (defBody st) t ∧ ∃ wv, (∀ B : Bs, VS K (B.hot p.1 cls d) (fun _ => E0) t wv) ∧ ∀ (D : Addr) (gs : List (Str × T)) (Qv : T → Prop), fv D gs Qv → wv (envE D gs (N.length - 1)) (endsV fun rt _ => ∃ t, rt = .val t ∧ flatT t = true ∧ Qv t)) :
    FnQ P w K mg base (k + 1) f fd [pn] (vspE K fv) := by
  refine XR.okQ F S (fun p vs H Q E h => ?_) fun cdv A outer s H vs Q p hr h => ?_
  · obtain ⟨_, _, _, _, _, _, rfl, _⟩ := h
    rfl
  · obtain ⟨cls, d, D, gs, G, Qv, rfl, hz, hf, rfl, er, vw, hv0, kr⟩ := h
    obtain ⟨t, hp, wv, hv, go⟩ := body cdv A outer s H p (.ref D) d hz hf hr
    refine ⟨t, hp, ?_⟩
    have S0 : StR K (Bs.hot ⟨G, H, [], (0, .none, none)⟩ p.1 (.ref D) d) [] (envE D gs (N.length - 1)) (L2.start N [.ref p.1]) G H := by
      refine ⟨vw, Same.refl _, fun a _ h => h, fun a o e _ => e, rfl, List.prefix_refl _, rfl, .nil, fun _ _ e => (by cases e), fun _ _ _ e => (by cases e), ?_, fun i r e => ?_⟩
      · show (L2.start N [V.ref p.1]).length = (some (Rf.err D gs) :: nones (N.length - 1)).length
        unfold L2.start
        have h2 : (some (Rf.err D gs) :: nones (N.length - 1)).length = N.length - 1 + 1 := by rw [List.length_cons, nones_len]
        rw [h2, List.length_append, List.length_map, List.length_replicate]
        simp
        omega
      · cases i with
        | zero => cases e; exact ⟨.ref p.1, rfl, rfl, rfl, er⟩
        | succ i => exact absurd e (nones_at _ _ _)
    refine (hv _).run S0 (go D gs Qv hv0) ⟨fun γ' as' σ' G' H' _ _ S' z => ?_, fun _ _ _ _ _ _ _ _ z => z.elim, fun _ _ _ _ _ _ _ _ z => z.elim, fun σ' r γ' as' v G' H' _ _ S' rr z => ?_, fun σ' => kxno⟩
    · obtain ⟨o, f, t, e1, fl, z⟩ := fin_of (io := []) S' z
      cases e1
      exact kr .non .non _ (fun a u e => f.hh a u e (by simp)) (fun _ => .non) z
    · obtain ⟨rt, o, f, rr, t, rfl, fl, z⟩ := rt_of (io := []) (Qv := fun rt _ => ∃ t, rt = .val t ∧ flatT t = true ∧ Qv t) S' rr z
      exact kr t v _ (fun a u e => f.hh a u e (by simp)) (fun _ => flat_any rr fl) z
end
end VL
set_option Elab.async false
set_option linter.all false
set_option maxRecDepth 100000
set_option maxHeartbeats 4000000
/-! readings over values: the rest -/
namespace VL
open PySem PySem.Spec PyProof.Rows L2 XR
theorem hu64 {n : Nat} (h : n + 65 < cLine) : n + 64 < cLine := by omega
theorem huR {k : Nat} {A : Around} (h : Room k A) : A.units + 65 < cLine := by have := h.un; omega
theorem huH {k : Nat} {A : Around} (h : L2H.RoomH k A) : A.units + 65 < cLine := by have := h.un; omega
theorem wvI {K : PySem.W.Frag} {E : L2.St → XK} {t : TS} {wv : VSW} {R : VSW → Prop} (h : ∀ B : Bs, VS K B E t wv) (k : R wv) : ∃ wv, (∀ B : Bs, VS K B E t wv) ∧ R wv := ⟨wv, h, k⟩
section
variable {K : PySem.W.Frag} {B : Bs} {E : L2.St → XK}
/-! ### is -/
def rIsNU : R2 := fun x y H Q => y = .non ∧ Q (.bl (decide (x = .non))) H
def rNotNU : R2 := fun x y H Q => y = .non ∧ Q (.bl (!decide (x = .non))) H
theorem op_isNU {X : Cx} : OpR X (compareOp .Is) rIsNU := op_isN
theorem op_notNU {X : Cx} : OpR X (compareOp .IsNot) rNotNU := op_notN
def isNon : T → Bool
  | .non => true
  | .bl _ => false
  | .int _ => false
  | .str _ => false
  | .ty _ => false
  | .cls _ => false
  | .lst _ => false
  | .tup _ => false
  | .scr _ => false
  | .rng _ _ => false
  | .obj _ _ => false
  | .dk _ => false
  | .dt _ => false
  | .ho _ => false
theorem isNon_rp {G : Hp} {v : V} {t : T} (r : Rp K G v t) : decide (v = .non) = isNon t := by cases r <;> rfl
def vIsN (neg : Bool) : Rf → Rf → VW := peek2 fun x y Q γ => match y with
  | .non => Q (.val (.bl (nb neg (isNon x)))) γ
  | _ => False
instance : V2 K B E rIsNU (vIsN false) where
  run := fun {as γ σ G H x y rx ry Q Qv Xv} S r1 r2 h k _ => by
    obtain ⟨t, u, e1, e2, h⟩ := peek2_rp S r1 r2 h
    split at h
    · cases e2; exact ⟨rfl, by rw [isNon_rp e1]; exact kval k S (.bl _) h⟩
    · exact h.elim
instance : V2 K B E rNotNU (vIsN true) where
  run := fun {as γ σ G H x y rx ry Q Qv Xv} S r1 r2 h k _ => by
    obtain ⟨t, u, e1, e2, h⟩ := peek2_rp S r1 r2 h
    split at h
    · cases e2; exact ⟨rfl, by rw [isNon_rp e1]; exact kval k S (.bl _) h⟩
    · exact h.elim
def vIsB (neg : Bool) : Rf → Rf → VW := peek2 fun x y Q γ => match x with
  | .bl a => match y with
    | .bl b => Q (.val (.bl (nb neg (decide (a = b))))) γ
    | _ => False
  | _ => False
instance : V2 K B E rIsB (vIsB false) where
  run := fun {as γ σ G H x y rx ry Q Qv Xv} S r1 r2 h k _ => by
    obtain ⟨t, u, e1, e2, h⟩ := peek2_rp S r1 r2 h
    split at h
    · split at h
      · cases e1; cases e2; exact ⟨_, _, rfl, rfl, kval k S (.bl _) h⟩
      · exact h.elim
    · exact h.elim
instance : V2 K B E rNotB (vIsB true) where
  run := fun {as γ σ G H x y rx ry Q Qv Xv} S r1 r2 h k _ => by
    obtain ⟨t, u, e1, e2, h⟩ := peek2_rp S r1 r2 h
    split at h
    · split at h
      · cases e1; cases e2; exact ⟨_, _, rfl, rfl, kval k S (.bl _) h⟩
      · exact h.elim
    · exact h.elim
/-! ### range as a value -/
def rRngU : List V → Hp → VK → Prop := fun vs H Q => ∃ j, vs = [V.int j] ∧ ∀ p, H p = none → Q (.ref p) (L2.upd H p (.rng 0 j))
theorem call_rngU {X : Cx} : CallR X (.type "range") rRngU := cr_range1
def vRngV : List Rf → VW := look1 fun t Q γ => match t with
  | .int j => Q (.val (.rng 0 j)) γ
  | _ => False
instance : VC K B E rRngU vRngV where
  run := fun {as γ σ G H vs rs Q Qv Xv} S r1 h k _ => by
    obtain ⟨v, t, rfl, z, h⟩ := look1_ok S r1 h
    split at h
    · rename_i j
      refine ⟨_, by rw [int_any z], fun p hp => ?_⟩
      obtain ⟨S', g⟩ := S.lay (o := .rng 0 j) hp
      exact k (.val (.rng 0 j)) _ _ _ _ _ (List.prefix_refl _) g S' (Rp.rng upd_same) h
    · exact h.elim
def rInRng : R2 := fun x y H Q => ∃ i a lo hi, x = V.int i ∧ y = V.ref a ∧ H a = some (.rng lo hi) ∧ Q (.bl (decide (lo ≤ i ∧ i < hi))) H
theorem op_inRng {X : Cx} : OpR X (compareOp .In) rInRng := op_in_rng
def vInRng : Rf → Rf → VW := peek2 fun x y Q γ => match x with
  | .int i => match y with
    | .rng lo hi => Q (.val (.bl (decide (lo ≤ i ∧ i < hi)))) γ
    | _ => False
  | _ => False
instance : V2 K B E rInRng vInRng where
  run := fun {as γ σ G H x y rx ry Q Qv Xv} S r1 r2 h k _ => by
    obtain ⟨t, u, e1, e2, h⟩ := peek2_rp S r1 r2 h
    split at h
    · split at h
      · cases e1
        cases e2 with | rng e => exact ⟨_, _, _, _, rfl, rfl, e, kval k S (.bl _) h⟩
      · exact h.elim
    · exact h.elim
/-! ### list(range(..)) -/
class VR (K : PySem.W.Frag) (B : Bs) (E : L2.St → XK) (t : L2.St → Hp → (Int → Int → Hp → Prop) → Prop) (w : outParam (Env → (Int → Int → Env → Prop) → XQ → Prop)) : Prop where
  run : ∀ {as : List Addr} {γ : Env} {σ : L2.St} {G H : Hp} {Q : Int → Int → Hp → Prop} {Qv : Int → Int → Env → Prop} {Xv : XQ}, StR K B as γ σ G H → w γ Qv Xv →
    (∀ (i j : Int) (γ' : Env) (as' : List Addr) (G' H' : Hp), as <+: as' → Same G G' → StR K B as' γ' σ G' H' → Qv i j γ' → Q i j H') → KontX K B as σ G (E σ) Xv → t σ H Q
def vRg1 (wa : VW) : Env → (Int → Int → Env → Prop) → XQ → Prop := fun γ Q X => wa γ (fun r γ1 => peek r γ1 fun t => match t with
  | .int j => Q 0 j γ1
  | _ => False) X
def vRg2 (wa wb : VW) : Env → (Int → Int → Env → Prop) → XQ → Prop := fun γ Q X => wa γ (fun r γ1 => peek r γ1 fun t => match t with
  | .int i => wb γ1 (fun r γ2 => peek r γ2 fun t => match t with
    | .int j => Q i j γ2
    | _ => False) X
  | _ => False) X
instance {ta : TE} {wa : VW} [ha : VE K B E ta wa] : VR K B E (tRg1 ta) (vRg1 wa) where
  run := fun {as γ σ G H Q Qv Xv} S h k kx => by
    refine ha.run S h (fun r1 γ1 as1 v1 G1 H1 p1 g1 S1 rr1 q1 => ?_) kx
    obtain ⟨t, q, z⟩ := peek_ok S1 rr1 q1
    split at q
    · exact ⟨_, int_any z, k _ _ _ _ _ _ p1 g1 S1 q⟩
    · exact q.elim
instance {ta tb : TE} {wa wb : VW} [ha : VE K B E ta wa] [hb : VE K B E tb wb] : VR K B E (tRg2 ta tb) (vRg2 wa wb) where
  run := fun {as γ σ G H Q Qv Xv} S h k kx => by
    refine ha.run S h (fun r1 γ1 as1 v1 G1 H1 p1 g1 S1 rr1 q1 => ?_) kx
    obtain ⟨t, q, z⟩ := peek_ok S1 rr1 q1
    split at q
    · refine hb.run S1 q (fun r2 γ2 as2 v2 G2 H2 p2 g2 S2 rr2 q2 => ?_) (kx.mono p1 g1)
      obtain ⟨t2, q2, z2⟩ := peek_ok S2 rr2 q2
      split at q2
      · exact ⟨_, _, int_any z, int_any z2, k _ _ _ _ _ _ (p1.trans p2) (g1.trans g2) S2 q2⟩
      · exact q2.elim
    · exact q.elim
theorem rgV_rp {G : Hp} (a b : Int) : RpAll K G (rgV a b) (rngT a (b - a).toNat) := by
  have aux : ∀ (l : List Nat), RpAll K G (l.map fun i => V.int (a + (i : Nat))) (l.map fun i => T.int (a + (i : Nat))) := fun l => by
    induction l with
    | nil => exact .nil
    | cons x r ih => exact .cons (.int _) ih
  exact aux _
def vLstRg (wr : Env → (Int → Int → Env → Prop) → XQ → Prop) : VW := fun γ Q X => wr γ (fun i j γ1 => RgOk i j ∧ γ1.new (.lst (rngT i (j - i).toNat)) Q) X
def vTupRg (wr : Env → (Int → Int → Env → Prop) → XQ → Prop) : VW := fun γ Q X => wr γ (fun i j γ1 => RgOk i j ∧ Q (.val (.tup (rngT i (j - i).toNat))) γ1) X
instance {t : L2.St → Hp → (Int → Int → Hp → Prop) → Prop} {wr : Env → (Int → Int → Env → Prop) → XQ → Prop} [hr : VR K B E t wr] : VE K B E (tLstRg t) (vLstRg wr) where
  run := fun {as γ σ G H Q Qv Xv} S h k kx => by
    refine hr.run S h (fun i j γ1 as1 G1 H1 p1 g1 S1 q1 => ?_) kx
    exact ⟨q1.1, fun q hq => knew (k.mono p1 g1) S1 (rgV_rp i j) q1.2 hq⟩
instance {t : L2.St → Hp → (Int → Int → Hp → Prop) → Prop} {wr : Env → (Int → Int → Env → Prop) → XQ → Prop} [hr : VR K B E t wr] : VE K B E (tTupRg t) (vTupRg wr) where
  run := fun {as γ σ G H Q Qv Xv} S h k kx => by
    refine hr.run S h (fun i j γ1 as1 G1 H1 p1 g1 S1 q1 => ?_) kx
    exact ⟨q1.1, fun q hq => ktup (k.mono p1 g1) S1 (rgV_rp i j) q1.2 hq⟩
/-! ### all, any, sum, max, min -/
theorem bls_inv {G : Hp} : ∀ {vs : List V} {bs : List Bool}, RpAll K G vs (bs.map T.bl) → vs = bs.map V.bl
  | _, [], .nil => rfl
  | _, b :: bs, .cons a r => by cases a; rw [bls_inv r]; rfl
theorem ints_inv {G : Hp} : ∀ {vs : List V} {bs : List Int}, RpAll K G vs (bs.map T.int) → vs = bs.map V.int
  | _, [], .nil => rfl
  | _, b :: bs, .cons a r => by cases a; rw [ints_inv r]; rfl
def vAllAny (f : List Bool → Bool) : List Rf → VW := look1 fun t Q γ => match t with
  | .lst ts => ∃ bs : List Bool, ts = bs.map T.bl ∧ Q (.val (.bl (f bs))) γ
  | _ => False
instance : VC K B E (rAll K) (vAllAny fun bs => bs.all id) where
  run := fun {as γ σ G H vs rs Q Qv Xv} S r1 h k _ => by
    obtain ⟨v, t, rfl, z, h⟩ := look1_ok S r1 h
    split at h
    · obtain ⟨bs, rfl, h⟩ := h
      obtain ⟨a, acc, rfl, e, rp⟩ := lst_any S z
      exact ⟨a, bs, rfl, by rw [← bls_inv rp]; exact SqL.of e, kval k S (.bl _) h⟩
    · exact h.elim
instance : VC K B E (rAny K) (vAllAny fun bs => bs.any id) where
  run := fun {as γ σ G H vs rs Q Qv Xv} S r1 h k _ => by
    obtain ⟨v, t, rfl, z, h⟩ := look1_ok S r1 h
    split at h
    · obtain ⟨bs, rfl, h⟩ := h
      obtain ⟨a, acc, rfl, e, rp⟩ := lst_any S z
      exact ⟨a, bs, rfl, by rw [← bls_inv rp]; exact SqL.of e, kval k S (.bl _) h⟩
    · exact h.elim
def vSum : List Rf → VW := look1 fun t Q γ => match t with
  | .lst ts => ∃ ns : List Int, ts = ns.map T.int ∧ Q (.val (.int ns.sum)) γ
  | _ => False
instance : VC K B E (rSum K) vSum where
  run := fun {as γ σ G H vs rs Q Qv Xv} S r1 h k _ => by
    obtain ⟨v, t, rfl, z, h⟩ := look1_ok S r1 h
    split at h
    · obtain ⟨bs, rfl, h⟩ := h
      obtain ⟨a, acc, rfl, e, rp⟩ := lst_any S z
      exact ⟨a, bs, rfl, by rw [← ints_inv rp]; exact SqL.of e, kval k S (.int _) h⟩
    · exact h.elim
def vMx (le : Int → Int → Prop) : List Rf → VW := look1 fun t Q γ => seqT t fun _ ts => ∃ ns : List Int, ts = ns.map T.int ∧ 0 < ns.length ∧ ∀ m, m ∈ ns → (∀ y, y ∈ ns → le y m) → Q (.val (.int m)) γ
instance : VC K B E (rMaxQ K) (vMx fun y m => y ≤ m) where
  run := fun {as γ σ G H vs rs Q Qv Xv} S r1 h k _ => by
    obtain ⟨v, t, rfl, z, h⟩ := look1_ok S r1 h
    obtain ⟨b, ts, a, acc, rfl, sq, rp, ⟨ns, rfl, h0, h⟩, _⟩ := seq_any S z h
    exact ⟨a, ns, rfl, by rw [← ints_inv rp]; exact sq.or, h0, fun m h1 h2 => kval k S (.int _) (h m h1 h2)⟩
instance : VC K B E (rMinQ K) (vMx fun y m => m ≤ y) where
  run := fun {as γ σ G H vs rs Q Qv Xv} S r1 h k _ => by
    obtain ⟨v, t, rfl, z, h⟩ := look1_ok S r1 h
    obtain ⟨b, ts, a, acc, rfl, sq, rp, ⟨ns, rfl, h0, h⟩, _⟩ := seq_any S z h
    exact ⟨a, ns, rfl, by rw [← ints_inv rp]; exact sq.or, h0, fun m h1 h2 => kval k S (.int _) (h m h1 h2)⟩
/-! ### walking a text -/
/-- x, y = a, b -/
instance {i j : Nat} {ta : TA} {wa : Env → (List Rf → Env → Prop) → XQ → Prop} [ha : VA K B E ta wa] : VS K B E (tPar i j ta) (vPar i j wa) where
  run := fun {as γ σ G H D Dv} S h k => by
    refine ha.run S h (fun rs γ1 as1 vs G1 H1 p1 g1 S1 rr1 q1 => ?_) (k.ex σ)
    split at q1
    · cases rr1 with | cons a b =>
      cases b with | cons a2 b =>
      cases b
      refine ⟨_, _, rfl, ?_⟩
      exact k.nx _ _ _ _ _ p1 g1 ((S1.store a i).store a2 j) q1
    · exact q1.elim
/-- a test's answer is another's -/
theorem br_nb {c : Bool} {P Q : Prop} (h : br c Q P) : br (!c) P Q := by cases c <;> exact h
end
end VL
set_option Elab.async false
set_option linter.all false
set_option maxRecDepth 100000
set_option maxHeartbeats 4000000
/-! loops over values: how they are told -/
namespace VL
open PySem PySem.Spec PyProof.Rows L2 XR
/-! ### from one telling of the state to another, reckoned -/
def fzAt (γ : Env) (k : Nat) : Option Env := match nth γ.mem k with
  | some (.mu t) => match Nat.ble γ.nio k with
    | true => some { γ with mem := γ.mem.set k (.fz t) }
    | false => none
  | some (.fz _) => some γ
  | none => none
def fzAll : List Nat → Env → Option Env
  | [], γ => some γ
  | k :: r, γ => match fzAt γ k with
    | some γ1 => fzAll r γ1
    | none => none
/-- the open objects that are settled in γ' -/
def toFz : List (Option Rf) → List (Option Rf) → List Nat
  | some (.ref k) :: l, some (.val _) :: l' => k :: toFz l l'
  | _ :: l, _ :: l' => toFz l l'
  | _, _ => []
def toFzM : Nat → List MO → List MO → List Nat
  | n, .mu _ :: l, .fz _ :: l' => n :: toFzM (n + 1) l l'
  | n, _ :: l, _ :: l' => toFzM (n + 1) l l'
  | _, _, _ => []
def fitSl (mem : List MO) (n : Nat) : List (Option Rf) → List (Option Rf) → Option (List (Option Rf))
  | [], [] => some []
  | _ :: l, none :: l' => match fitSl mem n l l' with
    | some r => some (none :: r)
    | none => none
  | some (.ref k) :: l, some (.val _) :: l' => match nth mem k with
    | some (.fz t) => match fitSl mem n l l' with
      | some r => some (some (.val t) :: r)
      | none => none
    | _ => none
  | some (.ref k) :: l, some (.ref _) :: l' => match Nat.blt k n with
    | true => match fitSl mem n l l' with
      | some r => some (some (.ref k) :: r)
      | none => none
    | false => none
  | some (.val t) :: l, some (.val _) :: l' => match fitSl mem n l l' with
    | some r => some (some (.val t) :: r)
    | none => none
  | some (.err D gs) :: l, some (.err _ _) :: l' => match fitSl mem n l l' with
    | some r => some (some (.err D gs) :: r)
    | none => none
  | _, _ => none
def normTo (γ γ' : Env) : Option Env := match fzAll (toFz γ.sl γ'.sl ++ toFzM 0 γ.mem γ'.mem) γ with
  | some γ1 => match fitSl γ1.mem γ'.mem.length γ1.sl γ'.sl with
    | some sl => match Nat.ble γ1.nio γ'.mem.length with
      | true => some ⟨γ1.nio, sl, γ1.mem.take γ'.mem.length⟩
      | false => none
    | none => none
  | none => none
theorem Le.trans {n0 : Nat} {γ γ1 γ2 : Env} (h : Le n0 γ γ1) (k : Le n0 γ1 γ2) : Le n0 γ γ2 := by
  induction h with
  | refl γ => exact k
  | unset i _ ih => exact .unset i (ih k)
  | freeze j e hk _ ih => exact .freeze j e hk (ih k)
  | toVal i e1 e2 _ ih => exact .toVal i e1 e2 (ih k)
  | cut n h1 h2 h3 _ ih => exact .cut n h1 h2 h3 (ih k)
theorem fzAt_le {n0 : Nat} {γ γ' : Env} {k : Nat} (h : fzAt γ k = some γ') : Le n0 γ γ' := by
  unfold fzAt at h
  rw [nth_eq] at h
  split at h
  · rename_i t e
    split at h
    · rename_i hb
      cases h
      exact .freeze k e (by simpa [Nat.ble_eq] using hb) (.refl _)
    · cases h
  · cases h; exact .refl _
  · cases h
theorem fzAll_le {n0 : Nat} : ∀ {ks : List Nat} {γ γ' : Env}, fzAll ks γ = some γ' → Le n0 γ γ'
  | [], γ, γ', h => by cases h; exact .refl _
  | k :: r, γ, γ', h => by
    unfold fzAll at h
    split at h
    · rename_i γ1 e
      exact (fzAt_le e).trans (fzAll_le h)
    · cases h
theorem set_len {α : Type} (pre : List α) (x y : α) (l : List α) : (pre ++ x :: l).set pre.length y = pre ++ y :: l := by
  rw [List.set_append_right _ _ (Nat.le_refl _), Nat.sub_self]
  rfl
theorem get_len {α : Type} (pre : List α) (x : α) (l : List α) : (pre ++ x :: l)[pre.length]? = some x := by
  rw [List.getElem?_append_right (Nat.le_refl _), Nat.sub_self]; rfl
/-- slot by slot -/
theorem fitSl_le {n0 n nio : Nat} {mem : List MO} : ∀ {l l' r : List (Option Rf)} {pre : List (Option Rf)}, fitSl mem n l l' = some r → Le n0 ⟨nio, pre ++ l, mem⟩ ⟨nio, pre ++ r, mem⟩ ∧ ∀ (i k : Nat), r[i]? = some (some (.ref k)) → k < n
  | [], [], r, pre, h => by cases h; exact ⟨.refl _, fun i k e => by cases e⟩
  | [], _ :: _, r, pre, h => by cases h
  | x :: l, none :: l', r, pre, h => by
    have h : (match fitSl mem n l l' with | some r => some (none :: r) | none => none) = some r := by
      cases x with
      | none => exact h
      | some y => cases y <;> exact h
    split at h
    · rename_i r' e
      cases h
      obtain ⟨h1, h2⟩ := fitSl_le (nio := nio) (n0 := n0) (pre := pre ++ [none]) e
      refine ⟨.unset pre.length ?_, fun i k e => ?_⟩
      · show Le n0 ⟨nio, (pre ++ x :: l).set pre.length none, mem⟩ _
        rw [set_len]
        simpa using h1
      · cases i with
        | zero => cases e
        | succ i => exact h2 i k e
    · cases h
  | some (.ref j) :: l, some (.val _) :: l', r, pre, h => by
    unfold fitSl at h
    rw [nth_eq] at h
    split at h
    · rename_i t em
      split at h
      · rename_i r' e
        cases h
        obtain ⟨h1, h2⟩ := fitSl_le (nio := nio) (n0 := n0) (pre := pre ++ [some (.val t)]) e
        refine ⟨.toVal (t := t) (k := j) pre.length (get_len _ _ _) em ?_, fun i k e => ?_⟩
        · show Le n0 ⟨nio, (pre ++ some (.ref j) :: l).set pre.length (some (.val t)), mem⟩ _
          rw [set_len]
          simpa using h1
        · cases i with
          | zero => cases e
          | succ i => exact h2 i k e
      · cases h
    · cases h
  | some (.ref j) :: l, some (.ref _) :: l', r, pre, h => by
    unfold fitSl at h
    split at h
    · rename_i hb
      split at h
      · rename_i r' e
        cases h
        obtain ⟨h1, h2⟩ := fitSl_le (nio := nio) (n0 := n0) (pre := pre ++ [some (.ref j)]) e
        refine ⟨by simpa using h1, fun i k e => ?_⟩
        cases i with
        | zero => cases e; simpa [Nat.blt_eq] using hb
        | succ i => exact h2 i k e
      · cases h
    · cases h
  | some (.val t) :: l, some (.val _) :: l', r, pre, h => by
    unfold fitSl at h
    split at h
    · rename_i r' e
      cases h
      obtain ⟨h1, h2⟩ := fitSl_le (nio := nio) (n0 := n0) (pre := pre ++ [some (.val t)]) e
      refine ⟨by simpa using h1, fun i k e => ?_⟩
      cases i with
      | zero => cases e
      | succ i => exact h2 i k e
    · cases h
  | some (.err D gs) :: l, some (.err _ _) :: l', r, pre, h => by
    unfold fitSl at h
    split at h
    · rename_i r' e
      cases h
      obtain ⟨h1, h2⟩ := fitSl_le (nio := nio) (n0 := n0) (pre := pre ++ [some (.err D gs)]) e
      refine ⟨by simpa using h1, fun i k e => ?_⟩
      cases i with
      | zero => cases e
      | succ i => exact h2 i k e
    · cases h
  | none :: _, [], _, _, h => by cases h
  | some (.ref _) :: _, [], _, _, h => by cases h
  | some (.val _) :: _, [], _, _, h => by cases h
  | some (.err _ _) :: _, [], _, _, h => by cases h
  | none :: _, some (.ref _) :: _, _, _, h => by cases h
  | none :: _, some (.val _) :: _, _, _, h => by cases h
  | none :: _, some (.err _ _) :: _, _, _, h => by cases h
  | some (.ref _) :: _, some (.err _ _) :: _, _, _, h => by cases h
  | some (.val _) :: _, some (.err _ _) :: _, _, _, h => by cases h
  | some (.val _) :: _, some (.ref _) :: _, _, _, h => by cases h
  | some (.err _ _) :: _, some (.ref _) :: _, _, _, h => by cases h
  | some (.err _ _) :: _, some (.val _) :: _, _, _, h => by cases h
theorem Le.to {n0 : Nat} {γ γ' : Env} (h : normTo γ γ' = some γ') (hn : n0 ≤ γ'.mem.length) : Le n0 γ γ' := by
  unfold normTo at h
  split at h
  · rename_i γ1 e1
    split at h
    · rename_i sl e2
      split at h
      · rename_i hb
        have h := Option.some.inj h
        obtain ⟨nio1, sl1, mem1⟩ := γ1
        obtain ⟨l2, f2⟩ := fitSl_le (n0 := n0) (nio := nio1) (pre := []) e2
        refine (fzAll_le e1).trans (l2.trans ?_)
        refine .cut γ'.mem.length hn (by simpa [Nat.ble_eq] using hb) f2 ?_
        have h : (⟨nio1, sl, mem1.take γ'.mem.length⟩ : Env) = γ' := h
        show Le n0 ⟨nio1, sl, mem1.take γ'.mem.length⟩ γ'
        rw [h]
        exact .refl _
      · cases h
    · cases h
  · cases h
/-! ### for -/
/-- the state is told by E at some s of which P holds -/
@[irreducible] def Nx {β : Type} (n0 : Nat) (E : β → Env) (P : β → Prop) (γ4 : Env) : Prop := ∃ γ5, Le n0 γ4 γ5 ∧ ∃ s, γ5 = E s ∧ P s
theorem Nx.mk {β : Type} {n0 : Nat} {E : β → Env} {P : β → Prop} {γ4 : Env} (s : β) (l : Le n0 γ4 (E s)) (p : P s) : Nx n0 E P γ4 := by
  unfold Nx
  exact ⟨E s, l, s, rfl, p⟩
section
variable {n0 : Nat} {γ1 : Env} {step : T → Env → (Env → Prop) → Prop} {done : Env → Prop} {β : Type}
theorem for_ts {ts : List T} (E : β → Env) (P : Nat → β → Prop) (h0 : Nx n0 E (P 0) γ1)
    (hs : ∀ i t s, ts[i]? = some t → P i s → step t (E s) (Nx n0 E (P (i + 1)))) (hd : ∀ s, P ts.length s → done (E s)) : ForI (.fix ts) n0 γ1 step done := by
  unfold Nx at h0 hs
  refine ⟨fun i γ => ∃ s, γ = E s ∧ P i s, h0, fun _ _ _ => trivial, fun i t γ2 e h => ?_, fun γ2 h => ?_⟩
  · obtain ⟨s, rfl, p⟩ := h
    exact hs i t s e p
  · obtain ⟨s, rfl, p⟩ := h
    exact hd s p
theorem for_map {α : Type} {xs : List α} {f : α → T} (E : β → Env) (P : Nat → β → Prop) (h0 : Nx n0 E (P 0) γ1)
    (hs : ∀ i x s, xs[i]? = some x → P i s → step (f x) (E s) (Nx n0 E (P (i + 1)))) (hd : ∀ s, P xs.length s → done (E s)) : ForI (.fix (xs.map f)) n0 γ1 step done := by
  refine for_ts E P h0 (fun i t s e p => ?_) fun s p => hd s (by rw [List.length_map] at p; exact p)
  rw [List.getElem?_map] at e
  cases ex : xs[i]? with
  | none => rw [ex] at e; cases e
  | some x => rw [ex] at e; cases e; exact hs i x s ex p
theorem for_rng {lo : Int} {n : Nat} (E : β → Env) (P : Nat → β → Prop) (h0 : Nx n0 E (P 0) γ1)
    (hs : ∀ i s, i < n → P i s → step (.int (lo + (i : Nat))) (E s) (Nx n0 E (P (i + 1)))) (hd : ∀ s, P n s → done (E s)) : ForI (.fix (rngT lo n)) n0 γ1 step done := by
  refine for_ts E P h0 (fun i t s e p => ?_) fun s p => hd s (by rw [rngT_len] at p; exact p)
  obtain ⟨h, rfl⟩ := rngT_at e
  exact hs i s h p
/-- for i, x in enumerate(..) -/
theorem for_enum {α : Type} {xs : List α} {f : α → T} {n : Int} (E : β → Env) (P : Nat → β → Prop) (h0 : Nx n0 E (P 0) γ1)
    (hs : ∀ i x s, xs[i]? = some x → P i s → step (.tup [.int (n + (i : Nat)), f x]) (E s) (Nx n0 E (P (i + 1)))) (hd : ∀ s, P xs.length s → done (E s)) : ForI (.fix (enumT n (xs.map f))) n0 γ1 step done := by
  refine for_ts E P h0 (fun i t s e p => ?_) fun s p => hd s (by rw [enumT_len, List.length_map] at p; exact p)
  rw [enumT_at, List.getElem?_map] at e
  cases ex : xs[i]? with
  | none => rw [ex] at e; cases e
  | some x => rw [ex] at e; cases e; exact hs i x s ex p
theorem for_zip {α α' : Type} {xs : List α} {ys : List α'} {f : α → T} {g : α' → T} (E : β → Env) (P : Nat → β → Prop) (h0 : Nx n0 E (P 0) γ1)
    (hs : ∀ i x y s, xs[i]? = some x → ys[i]? = some y → P i s → step (.tup [f x, g y]) (E s) (Nx n0 E (P (i + 1)))) (hd : ∀ s, P (min xs.length ys.length) s → done (E s)) : ForI (.fix (zipT (xs.map f) (ys.map g))) n0 γ1 step done := by
  refine for_ts E P h0 (fun i t s e p => ?_) fun s p => hd s (by rw [zipT_len, List.length_map, List.length_map] at p; exact p)
  obtain ⟨a, b, h1, h2, rfl⟩ := zipT_inv e
  rw [List.getElem?_map] at h1 h2
  cases ex : xs[i]? with
  | none => rw [ex] at h1; cases h1
  | some x =>
    cases ey : ys[i]? with
    | none => rw [ey] at h2; cases h2
    | some y => rw [ex] at h1; rw [ey] at h2; cases h1; cases h2; exact hs i x y s ex ey p
/-- over an open list that stands as it is while the loop runs -/
theorem for_live {α : Type} {xs : List α} {f : α → T} {k : Nat} (E : β → Env) (P : Nat → β → Prop) (hon : ∀ s, nth (E s).mem k = some (.mu (.lst (xs.map f)))) (h0 : Nx n0 E (P 0) γ1)
    (hs : ∀ i x s, xs[i]? = some x → P i s → step (f x) (E s) (Nx n0 E (P (i + 1)))) (hd : ∀ s, P xs.length s → done (E s)) : ForI (.live k (xs.map f)) n0 γ1 step done := by
  unfold Nx at h0 hs
  refine ⟨fun i γ => ∃ s, γ = E s ∧ P i s, h0, fun i γ2 h => ?_, fun i t γ2 e h => ?_, fun γ2 h => ?_⟩
  · obtain ⟨s, rfl, p⟩ := h
    exact hon s
  · obtain ⟨s, rfl, p⟩ := h
    have e : (xs.map f)[i]? = some t := e
    rw [List.getElem?_map] at e
    cases ex : xs[i]? with
    | none => rw [ex] at e; cases e
    | some x => rw [ex] at e; cases e; exact hs i x s ex p
  · obtain ⟨s, rfl, p⟩ := h
    have p : P (xs.map f).length s := p
    rw [List.length_map] at p
    exact hd s p
/-! ### while -/
theorem while_st {step : Env → (Env → Prop) → Prop} (E : β → Env) (P : Nat → β → Prop) (h0 : ∃ m, Nx n0 E (P m) γ1) (hs : ∀ m s, P m s → step (E s) (fun γ4 => ∃ m', m' < m ∧ Nx n0 E (P m') γ4))
    (mono : ∀ (γ : Env) (N N' : Env → Prop), (∀ γ4, N γ4 → N' γ4) → step γ N → step γ N') : WhileI n0 γ1 step := by
  unfold Nx at h0 hs
  obtain ⟨m, γ5, l, s, rfl, p⟩ := h0
  refine ⟨fun m γ => ∃ s, γ = E s ∧ P m s, ⟨m, E s, l, s, rfl, p⟩, fun m γ2 h => ?_⟩
  obtain ⟨s, rfl, p⟩ := h
  exact mono _ _ _ (fun γ4 h => let ⟨m', hm, γ5, l, s', e, q⟩ := h; ⟨γ5, m', l, hm, s', e, q⟩) (hs m s p)
/-- the end of a turn of a while -/
@[irreducible] def Nw (n0 : Nat) (E : β → Env) (P : Nat → β → Prop) (m : Nat) (γ4 : Env) : Prop := ∃ γ5 m', Le n0 γ4 γ5 ∧ m' < m ∧ ∃ s, γ5 = E s ∧ P m' s
theorem Nw.mk {E : β → Env} {P : Nat → β → Prop} {m : Nat} {γ4 : Env} (s : β) (m' : Nat) (l : Le n0 γ4 (E s)) (h : m' < m) (p : P m' s) : Nw n0 E P m γ4 := by
  unfold Nw
  exact ⟨E s, m', l, h, s, rfl, p⟩
theorem while_ts {step : Env → (Env → Prop) → Prop} (E : β → Env) (P : Nat → β → Prop) (m : Nat) (h0 : Nx n0 E (P m) γ1) (hs : ∀ m s, P m s → step (E s) (Nw n0 E P m)) : WhileI n0 γ1 step := by
  unfold Nx at h0
  unfold Nw at hs
  obtain ⟨γ5, l, s, rfl, p⟩ := h0
  refine ⟨fun m γ => ∃ s, γ = E s ∧ P m s, ⟨m, E s, l, s, rfl, p⟩, fun m γ2 h => ?_⟩
  obtain ⟨s, rfl, p⟩ := h
  exact hs m s p
/-! ### behind a statement -/
theorem cut_st {fst : (Env → Prop) → Prop} {snd : Env → Prop} (E : β → Env) (P : β → Prop) (h1 : fst (Nx n0 E P)) (h2 : ∀ s, P s → snd (E s)) : CutI n0 fst snd := by
  unfold Nx at h1
  refine ⟨fun γ => ∃ s, γ = E s ∧ P s, h1, fun γ2 h => ?_⟩
  obtain ⟨s, rfl, p⟩ := h
  exact h2 s p
end
/-! ### comprehensions -/
section
variable {γ1 : Env} {vs : List Nat} {step : T → Env → (Env → Prop) → Prop} {Q : RQ} {β α : Type} {xs : List α} {f : α → T}
/-- the state with the new list -/
def EL (γ1 : Env) (vs : List Nat) (out : List T) : Env := (γ1.push (.mu (.lst out))).wipe vs
@[irreducible] def NL (γ1 : Env) (vs : List Nat) (I : List T → Prop) (γ4 : Env) : Prop := ∃ γ5, Le (γ1.mem.length + 1) (γ4.wipe vs) γ5 ∧ ∃ out, γ5 = EL γ1 vs out ∧ I out
theorem NL.mk {I : List T → Prop} {γ4 : Env} (out : List T) (l : Le (γ1.mem.length + 1) (γ4.wipe vs) (EL γ1 vs out)) (p : I out) : NL γ1 vs I γ4 := by
  unfold NL
  exact ⟨EL γ1 vs out, l, out, rfl, p⟩
/-- only the new list changes -/
theorem lc_ts {ts : List T} (I : Nat → List T → Prop) (i0 : I 0 []) (hs : ∀ i t out, ts[i]? = some t → I i out → step t ((EL γ1 vs out).wipe vs) (NL γ1 vs (I (i + 1)))) (hd : ∀ out, I ts.length out → Q (.ref γ1.mem.length) (EL γ1 vs out)) : LcI (.fix ts) γ1 vs step Q := by
  unfold NL at hs
  refine ⟨fun i γ => ∃ out, γ = EL γ1 vs out ∧ I i out, ⟨EL γ1 vs [], .refl _, [], rfl, i0⟩, fun _ _ _ => trivial, fun i t γ2 e h => ?_, fun γ2 h => ?_⟩
  · obtain ⟨out, rfl, p⟩ := h
    exact hs i t out e p
  · obtain ⟨out, rfl, p⟩ := h
    exact hd out p
theorem take_succ_fm {γ : Type} {xs : List α} {i : Nat} {x : α} (g : α → Option γ) (e : xs[i]? = some x) : (xs.take (i + 1)).filterMap g = (xs.take i).filterMap g ++ (g x).toList := by
  rw [XR.take_one e, List.filterMap_append]
  have : [x].filterMap g = (g x).toList := by cases h : g x <;> simp [h]
  rw [this]
/-- each item gives g of it, or nothing -/
theorem lc_fm (g : α → Option T) (hs : ∀ (i : Nat) x out, xs[i]? = some x → out.length < xs.length → step (f x) ((EL γ1 vs out).wipe vs) (NL γ1 vs (fun o => o = out ++ (g x).toList))) (hd : Q (.ref γ1.mem.length) (EL γ1 vs (xs.filterMap g))) : LcI (.fix (xs.map f)) γ1 vs step Q := by
  refine lc_ts (fun i out => out = (xs.take i).filterMap g) rfl (fun i t out e h => ?_) fun out h => ?_
  · subst h
    rw [List.getElem?_map] at e
    cases ex : xs[i]? with
    | none => rw [ex] at e; cases e
    | some x =>
      rw [ex] at e
      cases e
      have := hs i x ((xs.take i).filterMap g) ex (by have := List.length_filterMap_le g (xs.take i); have := (List.getElem?_eq_some_iff.mp ex).1; rw [List.length_take] at *; omega)
      rw [take_succ_fm g ex]
      exact this
  · subst h
    rw [List.length_map, List.take_length]
    exact hd
theorem lc_map (g : α → T) (hs : ∀ (i : Nat) x out, xs[i]? = some x → out.length < xs.length → step (f x) ((EL γ1 vs out).wipe vs) (NL γ1 vs (fun o => o = out ++ [g x]))) (hd : Q (.ref γ1.mem.length) (EL γ1 vs (xs.map g))) : LcI (.fix (xs.map f)) γ1 vs step Q := by
  refine lc_fm (fun x => some (g x)) (fun i x out e h => hs i x out e h) ?_
  have : xs.filterMap (fun x => some (g x)) = xs.map g := by rw [List.filterMap_eq_map']
  rw [this]
  exact hd
theorem lc_rng {lo : Int} {n : Nat} (g : Nat → Option T) (hs : ∀ i out, i < n → out.length < n → step (.int (lo + (i : Nat))) ((EL γ1 vs out).wipe vs) (NL γ1 vs (fun o => o = out ++ (g i).toList))) (hd : Q (.ref γ1.mem.length) (EL γ1 vs ((List.range n).filterMap g))) : LcI (.fix (rngT lo n)) γ1 vs step Q := by
  refine lc_fm (xs := List.range n) (f := fun i => .int (lo + (i : Nat))) g (fun i x out e h => ?_) hd
  have hl : i < n := by have := (List.getElem?_eq_some_iff.mp e).1; simpa using this
  rw [List.getElem?_range hl] at e
  cases e
  exact hs i out hl (by rw [List.length_range] at h; exact h)
theorem lc_rngM {lo : Int} {n : Nat} (g : Nat → T) (hs : ∀ i out, i < n → out.length < n → step (.int (lo + (i : Nat))) ((EL γ1 vs out).wipe vs) (NL γ1 vs (fun o => o = out ++ [g i]))) (hd : Q (.ref γ1.mem.length) (EL γ1 vs ((List.range n).map g))) : LcI (.fix (rngT lo n)) γ1 vs step Q := by
  refine lc_rng (fun i => some (g i)) (fun i out e h => hs i out e h) ?_
  have : (List.range n).filterMap (fun i => some (g i)) = (List.range n).map g := by rw [List.filterMap_eq_map']
  rw [this]
  exact hd
/-- a state besides (draws): E s out, the new list last in its memory -/
@[irreducible] def NLs (n0 : Nat) (vs : List Nat) (E : β → Env) (P : β → Prop) (γ4 : Env) : Prop := ∃ γ5, Le n0 (γ4.wipe vs) γ5 ∧ ∃ s, γ5 = E s ∧ P s
theorem NLs.mk {n0 : Nat} {E : β → Env} {P : β → Prop} {γ4 : Env} (s : β) (l : Le n0 (γ4.wipe vs) (E s)) (p : P s) : NLs n0 vs E P γ4 := by
  unfold NLs
  exact ⟨E s, l, s, rfl, p⟩
theorem lc_st {ts : List T} (E : β → Env) (P : Nat → β → Prop) (h0 : NLs (γ1.mem.length + 1) vs E (P 0) (γ1.push (.mu (.lst []))))
    (hs : ∀ i t s, ts[i]? = some t → P i s → step t ((E s).wipe vs) (NLs (γ1.mem.length + 1) vs E (P (i + 1)))) (hd : ∀ s, P ts.length s → Q (.ref γ1.mem.length) (E s)) : LcI (.fix ts) γ1 vs step Q := by
  unfold NLs at h0 hs
  refine ⟨fun i γ => ∃ s, γ = E s ∧ P i s, h0, fun _ _ _ => trivial, fun i t γ2 e h => ?_, fun γ2 h => ?_⟩
  · obtain ⟨s, rfl, p⟩ := h
    exact hs i t s e p
  · obtain ⟨s, rfl, p⟩ := h
    exact hd s p
end
/-! ### typed values as trees: == decides -/
structure Enc {α : Type} [DecidableEq α] (f : α → T) (d : Nat) : Prop where
  eq : ∀ a b, eqT (f a) (f b) = decide (a = b)
  data : ∀ a, dataT (f a) = true
  dep : ∀ a, depT (f a) ≤ d
theorem Enc.ok {α : Type} [DecidableEq α] {f : α → T} {d : Nat} (h : Enc f d) (hd : d ≤ 64) (a : α) : okD (f a) = true := by
  unfold okD
  rw [h.data, Bool.true_and]
  exact decide_eq_true (Nat.le_trans (h.dep a) hd)
theorem encInt : Enc T.int 0 := ⟨fun a b => by show (a == b) = _; rw [Bool.eq_iff_iff]; simp, fun _ => rfl, fun _ => Nat.le_refl _⟩
theorem encStr : Enc T.str 0 := ⟨fun a b => by show (a == b) = _; rw [Bool.eq_iff_iff]; simp, fun _ => rfl, fun _ => Nat.le_refl _⟩
theorem encBl : Enc T.bl 0 := ⟨fun a b => by show (a == b) = _; rw [Bool.eq_iff_iff]; simp, fun _ => rfl, fun _ => Nat.le_refl _⟩
def eqTs (xs ys : List T) : Bool := PyData.eqvAll (toDs xs) (toDs ys)
section
variable {α : Type} [DecidableEq α] {f : α → T} {d : Nat}
theorem Enc.eqs (h : Enc f d) : ∀ xs ys : List α, eqTs (xs.map f) (ys.map f) = decide (xs = ys)
  | [], [] => rfl
  | [], y :: ys => rfl
  | x :: xs, [] => rfl
  | x :: xs, y :: ys => by
    show (eqT (f x) (f y) && eqTs (xs.map f) (ys.map f)) = _
    rw [h.eq, h.eqs xs ys, Bool.eq_iff_iff]
    simp
theorem Enc.datas (h : Enc f d) : ∀ xs : List α, dataTs (xs.map f) = true
  | [] => rfl
  | x :: xs => by show (dataT (f x) && dataTs (xs.map f)) = true; rw [h.data, h.datas xs]; rfl
theorem Enc.deps (h : Enc f d) : ∀ xs : List α, depTs (xs.map f) ≤ d
  | [] => Nat.zero_le _
  | x :: xs => by show max (depT (f x)) (depTs (xs.map f)) ≤ d; have := h.dep x; have := h.deps xs; omega
theorem Enc.list (h : Enc f d) : Enc (fun xs : List α => T.lst (xs.map f)) (d + 1) := ⟨fun a b => h.eqs a b, fun a => h.datas a, fun a => by show depTs _ + 1 ≤ _; have := h.deps a; omega⟩
theorem Enc.tupl (h : Enc f d) : Enc (fun xs : List α => T.tup (xs.map f)) (d + 1) := ⟨fun a b => h.eqs a b, fun a => h.datas a, fun a => by show depTs _ + 1 ≤ _; have := h.deps a; omega⟩
theorem Enc.pair {γ : Type} [DecidableEq γ] {g : γ → T} {e : Nat} (h : Enc f d) (k : Enc g e) : Enc (fun p : α × γ => T.tup [f p.1, g p.2]) (max d e + 1) := by
  refine ⟨fun a b => ?_, fun a => ?_, fun a => ?_⟩
  · show (eqT (f a.1) (f b.1) && (eqT (g a.2) (g b.2) && true)) = _
    rw [h.eq, k.eq, Bool.and_true, Bool.eq_iff_iff]
    obtain ⟨a1, a2⟩ := a
    obtain ⟨b1, b2⟩ := b
    simp
  · show (dataT (f a.1) && (dataT (g a.2) && true)) = true
    rw [h.data, k.data]; rfl
  · show max (depT (f a.1)) (max (depT (g a.2)) 0) + 1 ≤ _
    have := h.dep a.1
    have := k.dep a.2
    omega
theorem Enc.mem (h : Enc f d) (x : α) : ∀ xs : List α, anyT (f x) (xs.map f) = decide (x ∈ xs)
  | [] => rfl
  | y :: ys => by
    show (eqT (f y) (f x) || anyT (f x) (ys.map f)) = _
    rw [h.eq, h.mem x ys, Bool.eq_iff_iff]
    simp only [Bool.or_eq_true, decide_eq_true_eq, List.mem_cons]
    exact or_congr_left ⟨Eq.symm, Eq.symm⟩
theorem eqT_nil (ts : List T) : eqT (.lst ts) (.lst []) = ts.isEmpty := by cases ts <;> rfl
theorem eqT_scr_nil (ts : List T) : eqT (.scr ts) (.lst []) = ts.isEmpty := by cases ts <;> rfl
end
end VL
namespace VL
theorem at_map {α : Type} {f : α → T} {xs : List α} {i : Int} (h : 0 ≤ i) (h1 : i < (xs.length : Int)) : ∃ x, xs[i.toNat]? = some x ∧ atL (xs.map f) i = some (f x) := by
  obtain ⟨t, e, e2⟩ := atL_at (xs.map f) h (by rw [List.length_map]; exact h1)
  rw [List.getElem?_map] at e2
  cases ex : xs[i.toNat]? with
  | none => rw [ex] at e2; cases e2
  | some x => rw [ex] at e2; exact ⟨x, rfl, by rw [e]; exact e2.symm⟩
theorem at_mapN {α : Type} {f : α → T} {xs : List α} {n : Nat} {x : α} (h : xs[n]? = some x) : atL (xs.map f) (n : Int) = some (f x) := by
  show nth (xs.map f) n = _
  rw [nth_eq, List.getElem?_map, h]; rfl
theorem at_mapZ {α : Type} {f : α → T} {xs : List α} {i : Int} {x : α} (h0 : 0 ≤ i) (h : xs[i.toNat]? = some x) : atL (xs.map f) i = some (f x) := by
  rw [atL_nat _ h0, List.getElem?_map, h]; rfl
abbrev qI (i : Int) : Option Rf := some (.val (.int i))
abbrev qT (t : T) : Option Rf := some (.val t)
abbrev qR (k : Nat) : Option Rf := some (.ref k)
end VL
set_option Elab.async false
set_option linter.all false
set_option maxRecDepth 100000
set_option maxHeartbeats 4000000
/-! small rows -/
namespace VL
open PySem PySem.Spec PyProof.Rows L2 XR
theorem erase_map {α β : Type} (f : α → β) : ∀ (xs : List α) (k : Nat), (xs.map f).eraseIdx k = (xs.eraseIdx k).map f
  | [], _ => by simp
  | x :: r, 0 => by simp
  | x :: r, k + 1 => by simp [erase_map f r k]
theorem pop_map {α β : Type} {f : α → β} {xs : List α} {n : Nat} {y : α} (h : xs[n]? = some y) : popN (xs.map f) n = some (f y, (xs.eraseIdx n).map f) := by
  rw [popN_eq, List.getElem?_map, h, erase_map]; rfl
theorem at_of {α : Type} {xs : List α} {i : Int} (h0 : 0 ≤ i) (h1 : i < (xs.length : Int)) : ∃ x, xs[i.toNat]? = some x := ⟨_, List.getElem?_eq_getElem (show i.toNat < xs.length by omega)⟩
theorem rng_ints (n : Nat) : rngT 0 n = ((List.range n).map fun (i : Nat) => (i : Int)).map T.int := by
  unfold rngT
  rw [List.map_map]
  exact List.map_congr_left fun a _ => by simp
/-! ### readings in comprehensions: K told -/
section
variable {X : Cx} {K : PySem.W.Frag} (e : X.K = K)
include e
theorem op_eqK (hu : X.A.units + 64 < cLine) : OpR X (compareOp .Eq) (rEqD K) := e ▸ op_eqD hu
theorem op_neK (hu : X.A.units + 64 < cLine) : OpR X (compareOp .NotEq) (rNeD K) := e ▸ op_neD hu
theorem op_inK (hu : X.A.units + 65 < cLine) : OpR X (compareOp .In) (rInU K false) := e ▸ op_inU hu
theorem op_notInK (hu : X.A.units + 65 < cLine) : OpR X (compareOp .NotIn) (rInU K true) := e ▸ op_notInU hu
theorem op_addK : OpR X (binaryOp .Add) (rAddU K) := e ▸ op_addU
theorem op_mulK : OpR X (binaryOp .Mult) (rMulU K) := e ▸ op_mulU
theorem ix_seqK : IxR X (rIx K) := e ▸ ix_seq
theorem sl_anyK : SlR X (rSlU K) := e ▸ sl_any
theorem call_lenK : CallR X (.builtin "len") (rLenU K) := e ▸ call_lenU
theorem call_listK : CallR X (.type "list") (rListU K) := e ▸ call_listU
theorem call_tupK : CallR X (.type "tuple") (rTupU K) := e ▸ call_tupU
theorem call_isiK : CallR X (.builtin "isinstance") (rIsi K) := e ▸ call_isi
theorem call_isiTK : CallR X (.builtin "isinstance") (rIsiT K) := e ▸ call_isiT
theorem cr_maxK (hc : X.calm = true) : CallR X (.builtin "max") (rMaxQ K) := e ▸ cr_maxQ hc
theorem cr_minK (hc : X.calm = true) : CallR X (.builtin "min") (rMinQ K) := e ▸ cr_minQ hc
theorem cr_sumK (hc : X.calm = true) : CallR X (.builtin "sum") (rSum K) := e ▸ cr_sum hc
theorem cr_allK (hc : X.calm = true) : CallR X (.builtin "all") (rAll K) := e ▸ cr_all hc
theorem cr_anyK (hc : X.calm = true) : CallR X (.builtin "any") (rAny K) := e ▸ cr_any hc
theorem pt_truK {a : Expr} {ta : TE} (ha : PE X a ta) (he : ∀ whole, isTrue a X.env whole = (do let v ← whole; standAt a.pos; holding [v] (truthy v))) : PT X a (tTru K ta) := e ▸ pt_tru ha he
theorem pi_dynK {tg l : Expr} {tl : TE} (hl : PE X l tl) : PI X tg l (iDyn K tl) := e ▸ pi_dyn hl
theorem pi_dynLK {tg l : Expr} {tl : TE} (hl : PE X l tl) : PI X tg l (iDynL K tl) := e ▸ pi_dynL hl
theorem pe_fldK {a : Expr} {f : Str} {pos : Pos} {ta : TE} (ha : PE X a ta) (h : attributeBase a f X.env (eval a X.env) = eval a X.env) : PE X (.Attribute a f pos) (tFld K ta f) := e ▸ pe_fld ha h
theorem pe_revLK {a : Expr} {te : TE} {k : Nat} {p1 p2 p3 pos : Pos} (ha : PE X a te) : PE X (.Subscript a (.Slice none none (some (.UnaryOp .USub (.Constant (.int 1) k p1) p2)) p3) pos) (tRevL K te) := e ▸ pe_revL ha
end
end VL
set_option Elab.async false
set_option linter.all false
set_option maxRecDepth 100000
set_option maxHeartbeats 4000000
/-! comprehensions of two fors -/
namespace VL
open PySem PySem.Spec PyProof.Rows L2 XR
section
variable {K : PySem.W.Frag} {B : Bs} {E : L2.St → XK}
structure LcJ (src : Src) (n0 : Nat) (γ1 : Env) (vs : List Nat) (step : T → Env → (Env → Prop) → Prop) (done : Env → Prop) : Prop where
  ex : ∃ I : Nat → Env → Prop, (∃ γ2, Le n0 (γ1.wipe vs) γ2 ∧ I 0 γ2) ∧ (∀ i γ2, I i γ2 → src.on γ2) ∧
    (∀ i t γ2, src.ts[i]? = some t → I i γ2 → step t (γ2.wipe vs) fun γ4 => ∃ γ5, Le n0 (γ4.wipe vs) γ5 ∧ I (i + 1) γ5) ∧ ∀ γ2, I src.ts.length γ2 → done γ2
def vLc2 (wi : Env → (Src → Env → Prop) → XQ → Prop) (wg : Rf → Env → (Env → Prop) → XQ → Prop) (wt : Env → (Bool → Env → Prop) → XQ → Prop) (wi1 : Env → (Src → Env → Prop) → XQ → Prop) (wg1 : Rf → Env → (Env → Prop) → XQ → Prop) (wt1 : Env → (Bool → Env → Prop) → XQ → Prop) (we : VW) (vs vs1 : List Nat) : VW := fun γ Q X => wi γ (fun src γ1 =>
  LcI src γ1 vs (fun t γ2 N => wg (.val t) γ2 (fun γ3 => wt γ3 (fun c γ4 => br c (wi1 γ4 (fun src1 γ5 => LcJ src1 γ5.mem.length γ5 vs1 (fun t1 γ6 N1 => wg1 (.val t1) γ6 (fun γ7 => wt1 γ7 (fun c1 γ8 => br c1 (we γ8 (fun r γ9 => toT r γ9 fun t' γa => appQ γ1.mem.length t' γa N1) noX) (N1 γ8)) noX) noX) N) noX) (N γ4)) noX) noX) Q) X
instance {wi wi1 : TI} {g g1 : TG} {tt tt1 : TT} {te : TE} {vs vs1 is is1 : List Nat} {vi vi1 : Env → (Src → Env → Prop) → XQ → Prop} {vg vg1 : Rf → Env → (Env → Prop) → XQ → Prop} {vt vt1 : Env → (Bool → Env → Prop) → XQ → Prop} {ve : VW} [hi : VI K B E wi vi] [hg : VG K B E g vg is] [ht : VT K B E tt vt] [hi1 : VI K B E wi1 vi1] [hg1 : VG K B E g1 vg1 is1] [ht1 : VT K B E tt1 vt1] [he : VE K B E te ve] [hs : SubL is vs] [hs1 : SubL is1 vs1] :
    VE K B E (tLc2 wi g tt wi1 g1 tt1 te vs vs1) (vLc2 vi vg vt vi1 vg1 vt1 ve vs vs1) where
  run := fun {as γ σ G H Q Qv Xv} S h k kx => by
    refine hi.run S h (fun src γ1 as1 G1 H1 J p1 g1 S1 ok q1 => ?_) kx
    intro Da hD
    obtain ⟨⟨I, ⟨γ0, le0, i0⟩, on, step, done⟩⟩ := q1
    have SD := (S1.alloc (t := .lst []) (o := .lst []) hD ⟨[], upd_same, .nil⟩)
    have lD : (as1 ++ [Da]).length = γ1.mem.length + 1 := by rw [List.length_append, S1.mlen]; rfl
    have aD : (as1 ++ [Da])[γ1.mem.length]? = some Da := by rw [← S1.mlen, List.getElem?_append_right (Nat.le_refl _), Nat.sub_self]; rfl
    obtain ⟨as0, G0, pp0, gg0, SS0⟩ := StR.le le0 (SD.wipe vs) (List.prefix_refl _) lD
    refine ⟨fun i m H' => m = src.ts.length - i ∧ i ≤ src.ts.length ∧ ∃ as' γ' G', as1 ++ [Da] <+: as' ∧ Same G1 G' ∧ StR K B as' γ' σ G' H' ∧ I i γ', ⟨_, rfl, Nat.zero_le _, as0, γ0, G0, pp0, gg0, SS0, i0⟩, ?_⟩
    rintro i m H' ⟨rfl, hi', as', γ', G', p', g', S', inv⟩
    have pq : as1 <+: as' := (List.prefix_append _ _).trans p'
    obtain ⟨go, stop, yld⟩ := ok pq g' S' (on i γ' inv)
    by_cases hlt : i < src.ts.length
    · refine .inr ⟨go i hlt, fun H'' => i + 1 ≤ src.ts.length ∧ ∃ as'' γ'' G'', as1 ++ [Da] <+: as'' ∧ Same G1 G'' ∧ StR K B as'' γ'' σ G'' H'' ∧ I (i + 1) γ'', fun H'' q => ⟨_, by omega, rfl, q.1, q.2⟩, fun x H'' hy => ?_⟩
      obtain ⟨G2, t, et, g2, S2, rp⟩ := yld i x H'' hlt hy
      have S2' : StR K B as' (γ'.wipe vs) (L2.wipe σ vs) G2 H'' := (S2.wipe vs).rewipe (vs := vs) (wipe_wipe σ vs) fun i r e => Env.wipe_none γ' e
      refine hg.run S2' (r := .val t) rp (step i t γ' et inv) (fun γ3 as3 σ3 G3 H3 p3 g3 S3 w3 q3 => ?_) kxno
      have ws : L2.wipe σ3 vs = L2.wipe σ vs := (w3 vs hs.h).trans (wipe_wipe σ vs)
      refine ⟨ws, ht.run S3 q3 (fun b γ4 as4 b' G4 H4 p4 g4 S4 e q4 => ?_) kxno⟩
      cases e
      have gG : Same G1 G4 := (g'.trans g2).trans (g3.trans g4)
      have pP : as1 ++ [Da] <+: as4 := p'.trans (p3.trans p4)
      have fin : ∀ {γ5 : Env} {as5 : List Addr} {G5 H5 : Hp}, Same G1 G5 → as1 ++ [Da] <+: as5 → StR K B as5 γ5 σ3 G5 H5 → (∃ γ6, Le (γ1.mem.length + 1) (γ5.wipe vs) γ6 ∧ I (i + 1) γ6) → i + 1 ≤ src.ts.length ∧ ∃ as'' γ'' G'', as1 ++ [Da] <+: as'' ∧ Same G1 G'' ∧ StR K B as'' γ'' σ G'' H5 ∧ I (i + 1) γ'' := by
        rintro γ5 as5 G5 H5 gg pp S5 ⟨γ6, le6, i6⟩
        have S6 : StR K B as5 (γ5.wipe vs) σ G5 H5 := (S5.wipe vs).rewipe (vs := vs) ws.symm fun i r e => Env.wipe_none γ5 e
        obtain ⟨as7, G7, p7, g7, S7⟩ := StR.le le6 S6 pp lD
        exact ⟨hlt, as7, γ6, G7, p7, gg.trans g7, S7, i6⟩
      cases b with
      | false => exact fin gG pP S4 q4
      | true =>
        refine hi1.run S4 q4 (fun src1 γ5 as5 G5 H5 J1 p5 g5 S5 ok1 q5 => ?_) kxno
        obtain ⟨⟨I1, ⟨γ6, le6, i6⟩, on1, step1, done1⟩⟩ := q5
        have pP5 : as1 ++ [Da] <+: as5 := pP.trans p5
        obtain ⟨as6, G6, p6, g6, S6⟩ := StR.le le6 (S5.wipe vs1) (List.prefix_refl _) S5.mlen
        refine ⟨fun j m H' => m = src1.ts.length - j ∧ j ≤ src1.ts.length ∧ ∃ as' γ' G', as5 <+: as' ∧ Same G5 G' ∧ StR K B as' γ' σ3 G' H' ∧ I1 j γ', ⟨_, rfl, Nat.zero_le _, as6, γ6, G6, p6, g6, S6, i6⟩, ?_⟩
        rintro j m H7 ⟨rfl, hj', as7, γ7, G7, p7, g7, S7, inv1⟩
        obtain ⟨go1, stop1, yld1⟩ := ok1 p7 g7 S7 (on1 j γ7 inv1)
        by_cases hlt1 : j < src1.ts.length
        · refine .inr ⟨go1 j hlt1, fun H'' => j + 1 ≤ src1.ts.length ∧ ∃ as'' γ'' G'', as5 <+: as'' ∧ Same G5 G'' ∧ StR K B as'' γ'' σ3 G'' H'' ∧ I1 (j + 1) γ'', fun H'' q => ⟨_, by omega, rfl, q.1, q.2⟩, fun x H8 hy => ?_⟩
          obtain ⟨G8, t8, et8, g8, S8, rp8⟩ := yld1 j x H8 hlt1 hy
          have S8' : StR K B as7 (γ7.wipe vs1) (L2.wipe σ3 vs1) G8 H8 := (S8.wipe vs1).rewipe (vs := vs1) (wipe_wipe σ3 vs1) fun i r e => Env.wipe_none γ7 e
          refine hg1.run S8' (r := .val t8) rp8 (step1 j t8 γ7 et8 inv1) (fun γ9 as9 σ9 G9 H9 p9 g9 S9 w9 q9 => ?_) kxno
          have ws1 : L2.wipe σ9 vs1 = L2.wipe σ3 vs1 := (w9 vs1 hs1.h).trans (wipe_wipe σ3 vs1)
          refine ⟨ws1, ht1.run S9 q9 (fun b γa asa b' Ga Ha pa ga Sa e qa => ?_) kxno⟩
          cases e
          have gA : Same G5 Ga := (g7.trans g8).trans (g9.trans ga)
          have pA : as5 <+: asa := p7.trans (p9.trans pa)
          have fin1 : ∀ {γb : Env} {asb : List Addr} {Gb Hb : Hp}, Same G5 Gb → as5 <+: asb → StR K B asb γb σ9 Gb Hb → (∃ γc, Le γ5.mem.length (γb.wipe vs1) γc ∧ I1 (j + 1) γc) → j + 1 ≤ src1.ts.length ∧ ∃ as'' γ'' G'', as5 <+: as'' ∧ Same G5 G'' ∧ StR K B as'' γ'' σ3 G'' Hb ∧ I1 (j + 1) γ'' := by
            rintro γb asb Gb Hb gg pp Sb ⟨γc, lec, ic⟩
            have Sc : StR K B asb (γb.wipe vs1) σ3 Gb Hb := (Sb.wipe vs1).rewipe (vs := vs1) ws1.symm fun i r e => Env.wipe_none γb e
            obtain ⟨asd, Gd, pd, gd, Sd⟩ := StR.le lec Sc pp S5.mlen
            exact ⟨hlt1, asd, γc, Gd, pd, gg.trans gd, Sd, ic⟩
          cases b with
          | false => exact fin1 gA pA Sa qa
          | true =>
            refine he.run Sa qa (fun r γb asb v Gb Hb pb gb Sb rrb qb => ?_) kxno
            obtain ⟨t', γc, Gc, gc, Sc, rpc, qc⟩ := toT_ok Sb rrb qb
            have pp : as5 <+: asb := pA.trans pb
            obtain ⟨acc, e1, e2, γd, Sd, qd⟩ := app_ok Sc (pre_get (pP5.trans pp) aD) rpc qc
            exact ⟨acc, e1, e2, fin1 (gA.trans (gb.trans gc)) pp Sd qd⟩
        · have e : j = src1.ts.length := by omega
          subst e
          exact .inl ⟨stop1, fin ((gG.trans g5).trans g7) (pP5.trans p7) S7 (done1 γ7 inv1)⟩
    · have e : i = src.ts.length := by omega
      subst e
      refine .inl ⟨stop, k (.ref γ1.mem.length) _ _ _ _ _ (p1.trans pq) (g1.trans g') S' ⟨Da, pre_get p' aD, rfl⟩ (done γ' inv)⟩
end
section
variable {n0 : Nat} {γ1 : Env} {vs : List Nat} {step : T → Env → (Env → Prop) → Prop} {done : Env → Prop} {β : Type}
theorem lcj_ts {ts : List T} (E : β → Env) (P : Nat → β → Prop) (h0 : NLs n0 vs E (P 0) γ1) (hs : ∀ i t s, ts[i]? = some t → P i s → step t ((E s).wipe vs) (NLs n0 vs E (P (i + 1)))) (hd : ∀ s, P ts.length s → done (E s)) : LcJ (.fix ts) n0 γ1 vs step done := by
  unfold NLs at h0 hs
  refine ⟨fun i γ => ∃ s, γ = E s ∧ P i s, h0, fun _ _ _ => trivial, fun i t γ2 e h => ?_, fun γ2 h => ?_⟩
  · obtain ⟨s, rfl, p⟩ := h
    exact hs i t s e p
  · obtain ⟨s, rfl, p⟩ := h
    exact hd s p
theorem lcj_map {α : Type} {xs : List α} {f : α → T} (E : β → Env) (P : Nat → β → Prop) (h0 : NLs n0 vs E (P 0) γ1) (hs : ∀ (i : Nat) x s, xs[i]? = some x → P i s → step (f x) ((E s).wipe vs) (NLs n0 vs E (P (i + 1)))) (hd : ∀ s, P xs.length s → done (E s)) : LcJ (.fix (xs.map f)) n0 γ1 vs step done := by
  refine lcj_ts E P h0 (fun i t s e p => ?_) fun s p => hd s (by rw [List.length_map] at p; exact p)
  rw [List.getElem?_map] at e
  cases ex : xs[i]? with
  | none => rw [ex] at e; cases e
  | some x => rw [ex] at e; cases e; exact hs i x s ex p
theorem lcj_rng {lo : Int} {n : Nat} (E : β → Env) (P : Nat → β → Prop) (h0 : NLs n0 vs E (P 0) γ1) (hs : ∀ i s, i < n → P i s → step (.int (lo + (i : Nat))) ((E s).wipe vs) (NLs n0 vs E (P (i + 1)))) (hd : ∀ s, P n s → done (E s)) : LcJ (.fix (rngT lo n)) n0 γ1 vs step done := by
  refine lcj_ts E P h0 (fun i t s e p => ?_) fun s p => hd s (by rw [rngT_len] at p; exact p)
  obtain ⟨h, rfl⟩ := rngT_at e
  exact hs i s h p
end
section
variable {γ1 : Env} {vs : List Nat} {step : T → Env → (Env → Prop) → Prop} {Q : RQ}
theorem lc_rngI {lo : Int} {n : Nat} (I : Nat → List T → Prop) (i0 : I 0 []) (hs : ∀ i out, i < n → I i out → step (.int (lo + (i : Nat))) ((EL γ1 vs out).wipe vs) (NL γ1 vs (I (i + 1)))) (hd : ∀ out, I n out → Q (.ref γ1.mem.length) (EL γ1 vs out)) : LcI (.fix (rngT lo n)) γ1 vs step Q := by
  refine lc_ts I i0 (fun i t out e p => ?_) fun out p => hd out (by rw [rngT_len] at p; exact p)
  obtain ⟨h, rfl⟩ := rngT_at e
  exact hs i out h p
theorem lc_mapI {α : Type} {xs : List α} {f : α → T} (I : Nat → List T → Prop) (i0 : I 0 []) (hs : ∀ (i : Nat) x out, xs[i]? = some x → I i out → step (f x) ((EL γ1 vs out).wipe vs) (NL γ1 vs (I (i + 1)))) (hd : ∀ out, I xs.length out → Q (.ref γ1.mem.length) (EL γ1 vs out)) : LcI (.fix (xs.map f)) γ1 vs step Q := by
  refine lc_ts I i0 (fun i t out e p => ?_) fun out p => hd out (by rw [List.length_map] at p; exact p)
  rw [List.getElem?_map] at e
  cases ex : xs[i]? with
  | none => rw [ex] at e; cases e
  | some x => rw [ex] at e; cases e; exact hs i x out ex p
theorem fm_filter {α β : Type} (f : α → β) (q : α → Bool) : ∀ xs : List α, xs.filterMap (fun c => if q c then some (f c) else none) = (xs.filter q).map f
  | [] => rfl
  | x :: r => by
    rw [List.filterMap_cons, List.filter_cons, fm_filter f q r]
    cases q x <;> rfl
theorem lc_filter {α : Type} {xs : List α} {f : α → T} (q : α → Bool) (h : α → T) (hs : ∀ (i : Nat) x out, xs[i]? = some x → out.length < xs.length → step (f x) ((EL γ1 vs out).wipe vs) (NL γ1 vs (fun o => o = out ++ if q x then [h x] else []))) (hd : Q (.ref γ1.mem.length) (EL γ1 vs ((xs.filter q).map h))) : LcI (.fix (xs.map f)) γ1 vs step Q := by
  refine lc_fm (fun x => if q x then some (h x) else none) (fun i x out e l => ?_) (by rw [fm_filter]; exact hd)
  have e2 : (if q x then some (h x) else none).toList = if q x then [h x] else [] := by cases q x <;> rfl
  rw [e2]
  exact hs i x out e l
theorem lc_filterR {lo : Int} {n : Nat} (q : Nat → Bool) (h : Nat → T) (hs : ∀ i out, i < n → out.length < n → step (.int (lo + (i : Nat))) ((EL γ1 vs out).wipe vs) (NL γ1 vs (fun o => o = out ++ if q i then [h i] else []))) (hd : Q (.ref γ1.mem.length) (EL γ1 vs (((List.range n).filter q).map h))) : LcI (.fix (rngT lo n)) γ1 vs step Q := by
  refine lc_rng (fun x => if q x then some (h x) else none) (fun i out e l => ?_) (by rw [fm_filter]; exact hd)
  have e2 : (if q i then some (h i) else none).toList = if q i then [h i] else [] := by cases q i <;> rfl
  rw [e2]
  exact hs i out e l
theorem Enc.self {α : Type} [DecidableEq α] {f : α → T} {d : Nat} (h : Enc f d) (a : α) : eqT (f a) (f a) = true := by rw [h.eq]; exact decide_eq_true rfl
theorem Enc.selfL {α : Type} [DecidableEq α] {f : α → T} {d : Nat} (h : Enc f d) (xs : List α) : eqT (.lst (xs.map f)) (.lst (xs.map f)) = true := h.list.self xs
theorem nats_int (xs : List Nat) : xs.map (fun (i : Nat) => T.int (0 + (i : Int))) = (xs.map fun (a : Nat) => (a : Int)).map T.int := by
  rw [List.map_map]
  exact List.map_congr_left fun a _ => by simp
theorem bls_ok {α : Type} (p : α → Bool) {xs : List α} {R : List Bool → Prop} (h : R (xs.map p)) : ∃ bs : List Bool, xs.map (fun c => T.bl (p c)) = bs.map T.bl ∧ R bs := ⟨_, by rw [List.map_map]; rfl, h⟩
theorem all_id {α : Type} (p : α → Bool) (xs : List α) : (xs.map p).all id = xs.all p := by rw [List.all_map]; rfl
theorem any_id {α : Type} (p : α → Bool) (xs : List α) : (xs.map p).any id = xs.any p := by rw [List.any_map]; rfl
theorem ints_ok {α : Type} (p : α → Int) {xs : List α} {R : List Int → Prop} (h : R (xs.map p)) : ∃ ns : List Int, xs.map (fun c => T.int (p c)) = ns.map T.int ∧ R ns := ⟨_, by rw [List.map_map]; rfl, h⟩
/-- the loop from a weaker telling of the state -/
theorem lc_from {src : Src} (γ2 : Env) (hn : γ2.mem.length = γ1.mem.length) (h : Le (γ1.mem.length + 1) ((γ1.push (.mu (.lst []))).wipe vs) ((γ2.push (.mu (.lst []))).wipe vs)) (k : LcI src γ2 vs step Q) : LcI src γ1 vs step Q := by
  obtain ⟨⟨I, ⟨γ0, l0, i0⟩, on, st, dn⟩⟩ := k
  rw [hn] at l0 st dn
  exact ⟨I, ⟨γ0, h.trans l0, i0⟩, on, st, dn⟩
/-- what the test kept, what it left out -/
theorem NL.keep {γ4 : Env} {out : List T} {q : Bool} {t : T} (hq : q = true) (l : Le (γ1.mem.length + 1) (γ4.wipe vs) (EL γ1 vs (out ++ [t]))) : NL γ1 vs (fun o => o = out ++ if q then [t] else []) γ4 := .mk _ l (by rw [hq]; rfl)
theorem NL.skip {γ4 : Env} {out : List T} {q : Bool} {t : T} (hq : q = false) (l : Le (γ1.mem.length + 1) (γ4.wipe vs) (EL γ1 vs out)) : NL γ1 vs (fun o => o = out ++ if q then [t] else []) γ4 := .mk _ l (by rw [hq]; exact (List.append_nil _).symm)
end
theorem cutT_lo (xs : List T) {n : Int} (h : 0 ≤ n) : cutT xs none (some n) = xs.take n.toNat := by
  unfold cutT HT.sIx
  simp only [Nat.sub_zero, List.drop_zero]
  rw [if_neg (by omega)]
  rcases Nat.lt_or_ge xs.length n.toNat with z | z
  · rw [List.take_of_length_le (by omega), List.take_of_length_le (by omega)]
  · congr 1; omega
theorem cutT_hi (xs : List T) {n : Int} (h : 0 ≤ n) : cutT xs (some n) none = xs.drop n.toNat := by
  unfold cutT HT.sIx
  simp only
  rw [if_neg (by omega)]
  rcases Nat.lt_or_ge xs.length n.toNat with z | z
  · rw [show min n.toNat xs.length = xs.length by omega, Nat.sub_self, List.drop_of_length_le (l := xs) (i := n.toNat) (by omega)]; rfl
  · rw [show min n.toNat xs.length = n.toNat by omega, List.take_of_length_le (by rw [List.length_drop]; omega)]
theorem cutT_loM {α : Type} (f : α → T) (xs : List α) {n : Int} (h : 0 ≤ n) : cutT (xs.map f) none (some n) = (xs.take n.toNat).map f := by rw [cutT_lo _ h, List.map_take]
theorem cutT_hiM {α : Type} (f : α → T) (xs : List α) {n : Int} (h : 0 ≤ n) : cutT (xs.map f) (some n) none = (xs.drop n.toNat).map f := by rw [cutT_hi _ h, List.map_drop]
section
variable {P : Program} {w : World} {K : PySem.W.Frag} {mg : Str → Option Value} {base : Heap}
theorem FnQ.imp {k : Nat} {f : Addr} {fd : FuncData} {ps : List Str} {sp sp' : SpQ} (F : FnQ P w K mg base k f fd ps sp) (h : ∀ p vs H Q E, sp' p vs H Q E → sp p vs H Q E) : FnQ P w K mg base k f fd ps sp' :=
  ⟨fun p vs H Q E q => F.len p vs H Q E (h _ _ _ _ _ q), fun A outer s H args us vs Q p hr pin e0 hb r q => F.run A outer s H args us vs Q p hr pin e0 hb r (h _ _ _ _ _ q)⟩
theorem okFQ {k : Nat} {f : Addr} {fd : FuncData} {ps : List Str} {fv : VSpF} (F : FnQ P w K mg base k f fd ps (fun _ => vsp K (falses ps.length) (ofF fv))) (len : ∀ ts Q, fv ts Q → ts.length = ps.length) : FnQ P w K mg base k f fd ps (fun _ => vspF K fv) := by
  refine FnQ.imp F fun p vs H Q E h => ?_
  obtain ⟨G, ts, Qv, vw, rp, hf, kk⟩ := h
  have hl : ps.length = vs.length := (len ts Qv hf).symm.trans rp.length.symm
  show vsp K (falses ps.length) (ofF fv) vs H Q E
  rw [hl]
  refine ⟨G, ts, fun rt o => ∃ t, rt = .val t ∧ flatT t = true ∧ Qv t, fun _ _ => False, vw, argsF rp, by rw [ioF]; exact .nil, ⟨Qv, hf, fun t fl q => ⟨t, rfl, fl, q⟩⟩, fun rt o v G' H' F' r q => ?_, fun _ _ _ _ _ _ _ q => q.elim⟩
  obtain ⟨t, rfl, fl, q⟩ := q
  rw [ioF] at F'
  exact kk t v H' (fun a o e => F'.hh a o e (by simp)) (fun G'' => flat_any r fl) q
end
/-! ### the law itself -/
def spLaw (K : PySem.W.Frag) : Sp := fun vs H Q _ => ∃ (a : Addr) (ns : List Int), vs = [.ref a] ∧ SqL K H a (ns.map V.int) ∧ ns.length ≤ 63 ∧ ∀ H', Q (.bl true) H'
def spLawV : VSp := fun ts Q _ => ∃ ns : List Int, ts = [.scr (ns.map T.int)] ∧ ns.length ≤ 63 ∧ Q (.val (.bl true)) []
theorem rp_ints {K : PySem.W.Frag} {G : Hp} : ∀ ns : List Int, RpAll K G (ns.map V.int) (ns.map T.int)
  | [] => .nil
  | _ :: r => .cons (.int _) (rp_ints r)
theorem okLaw {P : Program} {w : World} {K : PySem.W.Frag} {mg : Str → Option Value} {base : Heap} {k : Nat} {f : Addr} {fd : FuncData} {ps : List Str} (F : FnOk P w K mg base CX0 k f fd ps (vsp K [false] spLawV)) : FnOk P w K mg base CX0 k f fd ps (spLaw K) := by
  refine F.imp fun vs H Q E h => ?_
  obtain ⟨a, ns, rfl, hS, hl, kq⟩ := h
  refine ⟨H, [.scr (ns.map T.int)], fun rt _ => rt = .val (.bl true), fun _ _ => False, Same.refl _, .val (.scr hS (rp_ints ns)) .nil, .nil, ⟨ns, rfl, hl, rfl⟩, fun rt o v G' H' _ r q => ?_, fun _ _ _ _ _ _ _ q => q.elim⟩
  subst q
  have r : Rp K G' v (.bl true) := r
  cases r
  exact kq _
end VL
set_option Elab.async false
set_option linter.all false
set_option maxRecDepth 100000
set_option maxHeartbeats 4000000
/-! loops whose state is told beside the state they begin at; what is settled ahead -/
namespace VL
open PySem PySem.Spec PyProof.Rows L2 XR
/-- the open object k, settled: in the slots too -/
def frSl (k : Nat) (t : T) : List (Option Rf) → List (Option Rf)
  | [] => []
  | some (.ref j) :: l => (match Nat.beq j k with
    | true => some (.val t)
    | false => some (.ref j)) :: frSl k t l
  | some (.val u) :: l => some (.val u) :: frSl k t l
  | some (.err D gs) :: l => some (.err D gs) :: frSl k t l
  | none :: l => none :: frSl k t l
def frX (n : Nat) (sl : List (Option Rf)) (m : List MO) (k : Nat) : Option MO → Env
  | some (.mu t) => ⟨n, frSl k t sl, m.set k (.fz t)⟩
  | some (.fz t) => ⟨n, frSl k t sl, m⟩
  | none => ⟨n, sl, m⟩
def Env.fr (γ : Env) (k : Nat) : Env := frX γ.nio γ.sl γ.mem k (nth γ.mem k)
def Env.frs (γ : Env) : List Nat → Env
  | [] => γ
  | k :: ks => (γ.fr k).frs ks
section
variable {n0 : Nat} {γ1 : Env} {step : T → Env → (Env → Prop) → Prop} {done : Env → Prop} {β : Type}
theorem for_fr {src : Src} (ks : List Nat) (h : Le n0 γ1 (γ1.frs ks)) (k : ForI src n0 (γ1.frs ks) step done) : ForI src n0 γ1 step done := by
  obtain ⟨I, ⟨γ0, l0, i0⟩, r⟩ := k
  exact ⟨I, ⟨γ0, h.trans l0, i0⟩, r⟩
theorem for_tsF {ts : List T} (F : Env → β → Env) (P : Nat → β → Prop) (h0 : Nx n0 (F γ1) (P 0) γ1)
    (hs : ∀ i t s, ts[i]? = some t → P i s → step t (F γ1 s) (Nx n0 (F γ1) (P (i + 1)))) (hd : ∀ s, P ts.length s → done (F γ1 s)) : ForI (.fix ts) n0 γ1 step done := for_ts (F γ1) P h0 hs hd
theorem for_mapF {α : Type} {xs : List α} {f : α → T} (F : Env → β → Env) (P : Nat → β → Prop) (h0 : Nx n0 (F γ1) (P 0) γ1)
    (hs : ∀ i x s, xs[i]? = some x → P i s → step (f x) (F γ1 s) (Nx n0 (F γ1) (P (i + 1)))) (hd : ∀ s, P xs.length s → done (F γ1 s)) : ForI (.fix (xs.map f)) n0 γ1 step done := for_map (F γ1) P h0 hs hd
theorem for_rngF {lo : Int} {n : Nat} (F : Env → β → Env) (P : Nat → β → Prop) (h0 : Nx n0 (F γ1) (P 0) γ1)
    (hs : ∀ i s, i < n → P i s → step (.int (lo + (i : Nat))) (F γ1 s) (Nx n0 (F γ1) (P (i + 1)))) (hd : ∀ s, P n s → done (F γ1 s)) : ForI (.fix (rngT lo n)) n0 γ1 step done := for_rng (F γ1) P h0 hs hd
theorem for_enumF {α : Type} {xs : List α} {f : α → T} {n : Int} (F : Env → β → Env) (P : Nat → β → Prop) (h0 : Nx n0 (F γ1) (P 0) γ1)
    (hs : ∀ i x s, xs[i]? = some x → P i s → step (.tup [.int (n + (i : Nat)), f x]) (F γ1 s) (Nx n0 (F γ1) (P (i + 1)))) (hd : ∀ s, P xs.length s → done (F γ1 s)) : ForI (.fix (enumT n (xs.map f))) n0 γ1 step done := for_enum (F γ1) P h0 hs hd
theorem for_zipF {α α' : Type} {xs : List α} {ys : List α'} {f : α → T} {g : α' → T} (F : Env → β → Env) (P : Nat → β → Prop) (h0 : Nx n0 (F γ1) (P 0) γ1)
    (hs : ∀ i x y s, xs[i]? = some x → ys[i]? = some y → P i s → step (.tup [f x, g y]) (F γ1 s) (Nx n0 (F γ1) (P (i + 1)))) (hd : ∀ s, P (min xs.length ys.length) s → done (F γ1 s)) : ForI (.fix (zipT (xs.map f) (ys.map g))) n0 γ1 step done := for_zip (F γ1) P h0 hs hd
theorem for_liveF {α : Type} {xs : List α} {f : α → T} {k : Nat} (F : Env → β → Env) (P : Nat → β → Prop) (hon : ∀ s, nth (F γ1 s).mem k = some (.mu (.lst (xs.map f)))) (h0 : Nx n0 (F γ1) (P 0) γ1)
    (hs : ∀ i x s, xs[i]? = some x → P i s → step (f x) (F γ1 s) (Nx n0 (F γ1) (P (i + 1)))) (hd : ∀ s, P xs.length s → done (F γ1 s)) : ForI (.live k (xs.map f)) n0 γ1 step done := for_live (F γ1) P hon h0 hs hd
theorem while_tsF {step : Env → (Env → Prop) → Prop} (F : Env → β → Env) (P : Nat → β → Prop) (m : Nat) (h0 : Nx n0 (F γ1) (P m) γ1) (hs : ∀ m s, P m s → step (F γ1 s) (Nw n0 (F γ1) P m)) : WhileI n0 γ1 step := while_ts (F γ1) P m h0 hs
end
section
variable {γ1 : Env} {vs : List Nat} {step : T → Env → (Env → Prop) → Prop} {Q : RQ} {β : Type}
theorem frs_len : ∀ (ks : List Nat) (γ : Env), (γ.frs ks).mem.length = γ.mem.length
  | [], γ => rfl
  | k :: ks, γ => by
    show ((γ.fr k).frs ks).mem.length = _
    rw [frs_len ks]
    unfold Env.fr frX
    split
    · simp
    · rfl
    · rfl
theorem lc_fr {src : Src} (ks : List Nat) (h : Le (γ1.mem.length + 1) ((γ1.push (.mu (.lst []))).wipe vs) (((γ1.frs ks).push (.mu (.lst []))).wipe vs)) (k : LcI src (γ1.frs ks) vs step Q) : LcI src γ1 vs step Q := lc_from _ (frs_len ks γ1) h k
theorem lc_tsF {ts : List T} (F : Env → β → Env) (P : Nat → β → Prop) (h0 : NLs (γ1.mem.length + 1) vs (F γ1) (P 0) (γ1.push (.mu (.lst []))))
    (hs : ∀ i t s, ts[i]? = some t → P i s → step t ((F γ1 s).wipe vs) (NLs (γ1.mem.length + 1) vs (F γ1) (P (i + 1)))) (hd : ∀ s, P ts.length s → Q (.ref γ1.mem.length) (F γ1 s)) : LcI (.fix ts) γ1 vs step Q := lc_st (F γ1) P h0 hs hd
theorem lc_mapF {α : Type} {xs : List α} {f : α → T} (F : Env → β → Env) (P : Nat → β → Prop) (h0 : NLs (γ1.mem.length + 1) vs (F γ1) (P 0) (γ1.push (.mu (.lst []))))
    (hs : ∀ i x s, xs[i]? = some x → P i s → step (f x) ((F γ1 s).wipe vs) (NLs (γ1.mem.length + 1) vs (F γ1) (P (i + 1)))) (hd : ∀ s, P xs.length s → Q (.ref γ1.mem.length) (F γ1 s)) : LcI (.fix (xs.map f)) γ1 vs step Q := by
  refine lc_tsF F P h0 (fun i t s e p => ?_) fun s p => hd s (by rw [List.length_map] at p; exact p)
  rw [List.getElem?_map] at e
  cases ex : xs[i]? with
  | none => rw [ex] at e; cases e
  | some x => rw [ex] at e; cases e; exact hs i x s ex p
theorem lc_rngF {lo : Int} {n : Nat} (F : Env → β → Env) (P : Nat → β → Prop) (h0 : NLs (γ1.mem.length + 1) vs (F γ1) (P 0) (γ1.push (.mu (.lst []))))
    (hs : ∀ i s, i < n → P i s → step (.int (lo + (i : Nat))) ((F γ1 s).wipe vs) (NLs (γ1.mem.length + 1) vs (F γ1) (P (i + 1)))) (hd : ∀ s, P n s → Q (.ref γ1.mem.length) (F γ1 s)) : LcI (.fix (rngT lo n)) γ1 vs step Q := by
  refine lc_tsF F P h0 (fun i t s e p => ?_) fun s p => hd s (by rw [rngT_len] at p; exact p)
  obtain ⟨h, rfl⟩ := rngT_at e
  exact hs i s h p
end
/-- an item of a display of ints -/
theorem lits (P : Int → Prop) (l : List Int) {i : Int} (h0 : 0 ≤ i) (h1 : i < (l.length : Int)) (hp : ∀ z ∈ l, P z) : ∃ z, P z ∧ atL (l.map T.int) i = some (.int z) := by
  obtain ⟨z, hz, e⟩ := at_map (f := T.int) (xs := l) h0 h1
  exact ⟨z, hp z (List.mem_of_getElem? hz), e⟩
/-! ### the state, reckoned -/
section
variable {n k i : Nat} {sl : List (Option Rf)} {m : List MO} {x : MO} {r : Rf}
theorem put_mk : Env.put ⟨n, sl, m⟩ k x = ⟨n, sl, m.set k x⟩ := rfl
theorem push_mk : Env.push ⟨n, sl, m⟩ x = ⟨n, sl, m ++ [x]⟩ := rfl
theorem set_mk : Env.set ⟨n, sl, m⟩ i r = ⟨n, sl.set i (some r), m⟩ := rfl
theorem unset_mk : Env.unset ⟨n, sl, m⟩ i = ⟨n, sl.set i none, m⟩ := rfl
theorem wipe_nl {γ : Env} : γ.wipe [] = γ := rfl
theorem wipe_cs {γ : Env} {v : Nat} {vs : List Nat} : γ.wipe (v :: vs) = (γ.wipe vs).unset v := rfl
theorem el_mk {γ : Env} {vs : List Nat} {out : List T} : EL γ vs out = (γ.push (.mu (.lst out))).wipe vs := rfl
theorem frs_nl {γ : Env} : γ.frs [] = γ := rfl
theorem frs_cs {γ : Env} {k : Nat} {ks : List Nat} : γ.frs (k :: ks) = (γ.fr k).frs ks := rfl
theorem fr_mk : Env.fr ⟨n, sl, m⟩ k = frX n sl m k (nth m k) := rfl
end
end VL
set_option Elab.async false
set_option linter.all false
set_option maxRecDepth 100000
set_option maxHeartbeats 4000000
/-! starred items, constants of the module that are tuples, items at a drawn index -/
namespace VL
open PySem PySem.Spec PyProof.Rows L2 XR
section
variable {K : PySem.W.Frag} {B : Bs} {E : L2.St → XK}
theorem RRs.app {ex : Addr × Value × Option Addr} {as : List Addr} {G : Hp} {rs rs' : List Rf} {vs vs' : List V} (q : RRs K ex as G rs' vs') : ∀ {rs : List Rf} {vs : List V}, RRs K ex as G rs vs → RRs K ex as G (rs ++ rs') (vs ++ vs')
  | _, _, .nil => q
  | _, _, .cons a b => .cons a (RRs.app (rs := []) (vs := []) q b)
/-- *s, .. -/
def vStar (wa : VW) (wr : Env → (List Rf → Env → Prop) → XQ → Prop) : Env → (List Rf → Env → Prop) → XQ → Prop := fun γ Q X => wa γ (fun r γ1 => peek r γ1 fun t => seqT t fun _ ts => wr γ1 (fun rs γ2 => Q (ts.map Rf.val ++ rs) γ2) X) X
instance {te : TE} {tr : TA} {wa : VW} {wr : Env → (List Rf → Env → Prop) → XQ → Prop} [ha : VE K B E te wa] [hr : VA K B E tr wr] : VA K B E (StX.tStar K te tr) (vStar wa wr) where
  run := fun {as γ σ G H Q Qv Xv} S h k kx => by
    refine ha.run S h (fun r1 γ1 as1 v1 G1 H1 p1 g1 S1 rr1 q1 => ?_) kx
    obtain ⟨b, ts, a, acc, rfl, sq, rp, q⟩ := peek_seq S1 rr1 q1
    refine ⟨a, acc, rfl, sq.or.symm, ?_⟩
    refine hr.run S1 q (fun rs γ2 as2 vs G2 H2 p2 g2 S2 rr2 q2 => ?_) (kx.mono p1 g1)
    exact k _ _ _ _ _ _ (p1.trans p2) (g1.trans g2) S2 (RRs.app (rs := []) (vs := []) rr2 (RRs.mono p2 g2 rp.rrs)) q2
theorem pa_starU {X : Cx} {e : Expr} {es : List Expr} {te : TE} {t : TA} {p : Pos} (he : PE X e te) (hr : PA X es t) (hs : starEach (.Starred e p :: es) X.env = (true, eval e X.env) :: starEach es X.env) : PA X (.Starred e p :: es) (StX.tStar X.K te t) := StX.pa_star he hr hs
theorem pa_starK {X : Cx} {K : PySem.W.Frag} (ek : X.K = K) {e : Expr} {es : List Expr} {te : TE} {t : TA} {p : Pos} (he : PE X e te) (hr : PA X es t) (hs : starEach (.Starred e p :: es) X.env = (true, eval e X.env) :: starEach es X.env) : PA X (.Starred e p :: es) (StX.tStar K te t) := ek ▸ StX.pa_star he hr hs
theorem toTs_vals {ts : List T} {rs : List Rf} {γ : Env} {Q : List T → Env → Prop} (h : toTs rs γ fun us γ' => Q (ts ++ us) γ') : toTs (ts.map Rf.val ++ rs) γ Q := by
  induction ts generalizing Q with
  | nil => exact h
  | cons t r ih => exact ih (Q := fun us γ' => Q (t :: us) γ') h
theorem toTs_vals0 {ts : List T} {γ : Env} {Q : List T → Env → Prop} (h : Q ts γ) : toTs (ts.map Rf.val) γ Q := by
  have := toTs_vals (rs := []) (ts := ts) (γ := γ) (Q := Q) (by show Q (ts ++ []) γ; rw [List.append_nil]; exact h)
  rw [List.append_nil] at this
  exact this
/-- a constant of the module: a tuple that stands from the start -/
def tGt (K : PySem.W.Frag) (a : Addr) (t : T) : TE := fun _ H Q => (∀ G : Hp, Rp K G (.ref a) t) → Q (.ref a) H
theorem pe_gt {X : Cx} {x : Str} {a : Addr} {t : T} {pos : Pos} (hg : Gl X x) (h : X.mg x = some (.ref a) ∧ ∀ G : Hp, Rp K G (.ref a) t) (hd : (x == ("__debug__" : Str)) = false := by decide) : PE X (.Name x pos) (tGt K a t) :=
  ⟨fun pins s σ H Q I q => (pe_glob (v := .ref a) hg h.1 rfl hd).run pins s σ H Q I (q h.2)⟩
instance {a : Addr} {t : T} : VE K B E (tGt K a t) (vVal t) := ⟨fun {as γ σ G H Q Qv Xv} S h k _ => fun rp => kval k S (rp G) h⟩
theorem rp_ctup {a : Addr} {od : Option Addr} {its : Array Value} {n : Nat} {sl : Array (Option Value)} {xs : List V} {ts : List T} (e : K.lookup a = some ⟨.type "tuple", od, .seq its n, sl⟩) (hz : its.size ≤ 1000) (hv : Vals xs its.toList) (h : ∀ G : Hp, RpAll K G xs ts) : ∀ G : Hp, Rp K G (.ref a) (.tup ts) :=
  fun G => .tup (.inr ⟨_, its, n, e, rfl, rfl, by rw [sizeLine_eq]; omega, hv⟩) (h G)
end
section
variable {α β γ : Type} [DecidableEq α] [DecidableEq β] [DecidableEq γ] {f : α → T} {g : β → T} {h : γ → T} {d e k : Nat}
theorem Enc.trip (hf : Enc f d) (hg : Enc g e) (hh : Enc h k) : Enc (fun p : α × β × γ => T.tup [f p.1, g p.2.1, h p.2.2]) (max d (max e k) + 1) := by
  refine ⟨fun a b => ?_, fun a => ?_, fun a => ?_⟩
  · show (eqT (f a.1) (f b.1) && (eqT (g a.2.1) (g b.2.1) && (eqT (h a.2.2) (h b.2.2) && true))) = _
    rw [hf.eq, hg.eq, hh.eq, Bool.and_true, Bool.eq_iff_iff]
    obtain ⟨a1, a2, a3⟩ := a
    obtain ⟨b1, b2, b3⟩ := b
    simp
  · show (dataT (f a.1) && (dataT (g a.2.1) && (dataT (h a.2.2) && true))) = true
    rw [hf.data, hg.data, hh.data]; rfl
  · show max (depT (f a.1)) (max (depT (g a.2.1)) (max (depT (h a.2.2)) 0)) + 1 ≤ _
    have := hf.dep a.1
    have := hg.dep a.2.1
    have := hh.dep a.2.2
    omega
end
theorem Enc.memI {α : Type} [DecidableEq α] {f : α → T} {d : Nat} (h : Enc f d) (x : α) (xs : List α) : anyT (f x) (xs.map f) = true ↔ x ∈ xs := by rw [h.mem]; exact decide_eq_true_iff
theorem Enc.eqI {α : Type} [DecidableEq α] {f : α → T} {d : Nat} (h : Enc f d) (x y : α) : eqT (f x) (f y) = true ↔ x = y := by rw [h.eq]; exact decide_eq_true_iff
theorem setN_map {α : Type} (f : α → T) : ∀ (xs : List α) (n : Nat) (x : α), n < xs.length → setN (xs.map f) n (f x) = some ((xs.set n x).map f)
  | [], _, _, h => by cases h
  | a :: l, 0, x, _ => rfl
  | a :: l, n + 1, x, h => by
    show (setN (l.map f) n (f x)).map _ = _
    rw [setN_map f l n x (Nat.lt_of_succ_lt_succ h)]; rfl
theorem set_map {α : Type} {f : α → T} {xs : List α} {i : Int} {x : α} (h0 : 0 ≤ i) (h1 : i < (xs.length : Int)) : setL (xs.map f) i (f x) = some ((xs.set i.toNat x).map f) := by
  obtain ⟨n, rfl⟩ := Int.eq_ofNat_of_zero_le h0
  exact setN_map f xs n x (by omega)
theorem isS_set {α : Type} {f : α → T} {xs : List α} {i : Int} {x : α} {Q : List T → Prop} (h0 : 0 ≤ i) (h1 : i < (xs.length : Int)) (h : Q ((xs.set i.toNat x).map f)) : isS (setL (xs.map f) i (f x)) Q := isS_i (set_map h0 h1) h
theorem rep_map {α : Type} (f : α → T) (x : α) : ∀ n : Nat, (List.replicate n [f x]).flatten = (List.replicate n x).map f
  | 0 => rfl
  | n + 1 => by rw [List.replicate_succ, List.flatten_cons, rep_map f x n]; rfl
theorem rng_map (lo : Int) (n : Nat) : rngT lo n = ((List.range n).map fun (i : Nat) => lo + (i : Int)).map T.int := by
  unfold rngT
  rw [List.map_map]; rfl
/-! ### an item at an index -/
theorem isS_in {α : Type} {f : α → T} {xs : List α} {i : Int} {Q : T → Prop} (h0 : 0 ≤ i) (h1 : i < (xs.length : Int)) (h : ∀ x, xs[i.toNat]? = some x → Q (f x)) : isS (atL (xs.map f) i) Q := by
  obtain ⟨x, hx, e⟩ := at_map (f := f) (xs := xs) h0 h1
  exact isS_i e (h x hx)
theorem isS_mod {α : Type} {f : α → T} {xs : List α} {x n : Int} {Q : T → Prop} (hn : (xs.length : Int) = n) (h0 : 0 < n) (h : ∀ z, z ∈ xs → Q (f z)) : isS (atL (xs.map f) (x % n)) Q :=
  isS_in (Int.emod_nonneg _ (by omega)) (by rw [hn]; exact Int.emod_lt_of_pos _ h0) fun z hz => h z (List.mem_of_getElem? hz)
theorem getD_z {α : Type} {l : List α} {z : Int} {i : Nat} {d x : α} (h : l[z.toNat]? = some x) (e : z.toNat = i) : l.getD i d = x := by subst e; simp [List.getD, h]
/-- of a display of ints -/
theorem isS_lit {l : List Int} {i : Int} {Q : T → Prop} (h0 : 0 ≤ i) (h1 : i < (l.length : Int)) (h : ∀ z, z ∈ l → Q (.int z)) : isS (atL (l.map T.int) i) Q := isS_in h0 h1 fun z hz => h z (List.mem_of_getElem? hz)
end VL
set_option Elab.async false
set_option linter.all false
set_option maxRecDepth 100000
set_option maxHeartbeats 4000000
/-! s == [], whatever stands in s -/
namespace VL
open PySem PySem.Spec PyProof.Rows L2 XR
def rEmp (K : PySem.W.Frag) (neg : Bool) : R2 := fun x y H Q => ∃ a b xs, x = .ref a ∧ y = .ref b ∧ SqL K H a xs ∧ SqL K H b [] ∧ Q (.bl (nb neg xs.isEmpty)) H
section
variable {X : Cx} {K : PySem.W.Frag} (e : X.K = K)
include e
theorem op_eqE (hu : X.A.units + 65 < cLine) : OpR X (compareOp .Eq) (rEmp K false) := by
  subst e
  intro pins s σ H x y v u Q I rx ry h
  obtain ⟨a, b, xs, rfl, rfl, ha, hb, q⟩ := h
  cases (show v = Value.ref a from rx)
  cases (show u = Value.ref b from ry)
  obtain ⟨us, r1, p1, _⟩ := I.list ha
  obtain ⟨ws, r2, p2, _⟩ := I.list hb
  cases r2
  cases xs with
  | nil =>
    cases r1
    exact (SeqAt.RcAt.lists (e := fun _ => true) p1.isList p2.isList rfl (by omega) (fun j h1 h2 => absurd h1 (by simp))) X.prog X.w _ _ ⟨.bl true, H, I, rfl, q⟩
  | cons x xs =>
    cases r1
    exact (SeqAt.RcAt.lists_lengths p1.isList p2.isList (by simp) (by omega)) X.prog X.w _ _ ⟨.bl false, H, I, rfl, q⟩
theorem op_neE (hu : X.A.units + 65 < cLine) : OpR X (compareOp .NotEq) (rEmp K true) := by
  subst e
  intro pins s σ H x y v u Q I rx ry h
  obtain ⟨a, b, xs, rfl, rfl, ha, hb, q⟩ := h
  cases (show v = Value.ref a from rx)
  cases (show u = Value.ref b from ry)
  obtain ⟨us, r1, p1, _⟩ := I.list ha
  obtain ⟨ws, r2, p2, _⟩ := I.list hb
  cases r2
  cases xs with
  | nil =>
    cases r1
    exact (SeqAt.RcNeAt.lists (e := fun _ => true) p1.isList p2.isList rfl (by omega) (fun j h1 h2 => absurd h1 (by simp))) X.prog X.w _ _ ⟨.bl false, H, I, rfl, q⟩
  | cons x xs =>
    cases r1
    exact (SeqAt.RcNeAt.lists_lengths p1.isList p2.isList (by simp) (by omega)) X.prog X.w _ _ ⟨.bl true, H, I, rfl, q⟩
end
def vEmp (neg : Bool) : Rf → Rf → VW := peek2 fun x y Q γ => match y with
  | .lst [] => match x with
    | .lst ts => Q (.val (.bl (nb neg ts.isEmpty))) γ
    | .scr ts => Q (.val (.bl (nb neg ts.isEmpty))) γ
    | _ => False
  | _ => False
section
variable {K : PySem.W.Frag} {B : Bs} {E : L2.St → XK}
theorem v2_emp {neg : Bool} : V2 K B E (rEmp K neg) (vEmp neg) where
  run := fun {as γ σ G H x y rx ry Q Qv Xv} S r1 r2 h k _ => by
    obtain ⟨t, u, e1, e2, h⟩ := peek2_rp S r1 r2 h
    split at h
    · cases e2 with | lst b1 b2 =>
      cases b2
      split at h
      · cases e1 with | lst z1 z2 => exact ⟨_, _, _, rfl, rfl, SqL.of z1, SqL.of b1, by rw [z2.emp]; exact kval k S (.bl _) h⟩
      · cases e1 with | scr z1 z2 => exact ⟨_, _, _, rfl, rfl, z1, SqL.of b1, by rw [z2.emp]; exact kval k S (.bl _) h⟩
      · exact h.elim
    · exact h.elim
instance : V2 K B E (rEmp K false) (vEmp false) := v2_emp
instance : V2 K B E (rEmp K true) (vEmp true) := v2_emp
end
end VL
set_option Elab.async false
set_option linter.all false
set_option maxRecDepth 100000
set_option maxHeartbeats 4000000
/-! methods of texts -/
namespace VL
open PySem PySem.Spec PyProof.Rows L2 XR
def isStr (t : T) : Prop := match t with
  | .str _ => True
  | _ => False
theorem isStr_ok {K : PySem.W.Frag} {B : Bs} {as : List Addr} {γ : Env} {σ : L2.St} {G H : Hp} {r : Rf} {v : V} (S : StR K B as γ σ G H) (rr : RR K B.ex as G r v) (h : peek r γ isStr) : ∃ a, v = .str a := by
  obtain ⟨t, q, z⟩ := peek_rp S rr h
  unfold isStr at q
  split at q
  · cases z; exact ⟨_, rfl⟩
  · exact q.elim
section
variable {K : PySem.W.Frag} {B : Bs} {E : L2.St → XK}
def vM1 (wr : Rf → List Rf → VW) (wo we : VW) : VW := fun γ Q X => wo γ (fun r γ1 => peek r γ1 isStr ∧ we γ1 (fun r2 γ2 => wr r [r2] γ2 Q X) X) X
def vM0 (wr : Rf → List Rf → VW) (wo : VW) : VW := fun γ Q X => wo γ (fun r γ1 => peek r γ1 isStr ∧ wr r [] γ1 Q X) X
instance {r : V → List V → Hp → VK → Prop} {wr : Rf → List Rf → VW} {to te : TE} {wo we : VW} [ho : VE K B E to wo] [he : VE K B E te we] [hr : VM K B E r wr] : VE K B E (tM1 r to te) (vM1 wr wo we) where
  run := fun {as γ σ G H Q Qv Xv} S h k kx => by
    refine ho.run S h (fun r1 γ1 as1 v1 G1 H1 p1 g1 S1 rr1 q1 => ?_) kx
    refine ⟨isStr_ok S1 rr1 q1.1, ?_⟩
    refine he.run S1 q1.2 (fun r2 γ2 as2 v2 G2 H2 p2 g2 S2 rr2 q2 => ?_) (kx.mono p1 g1)
    exact hr.run S2 (RR.mono rr1 p2 g2) (.cons rr2 .nil) q2 ((k.mono p1 g1).mono p2 g2) ((kx.mono p1 g1).mono p2 g2)
instance {r : V → List V → Hp → VK → Prop} {wr : Rf → List Rf → VW} {to : TE} {wo : VW} [ho : VE K B E to wo] [hr : VM K B E r wr] : VE K B E (tM0 r to) (vM0 wr wo) where
  run := fun {as γ σ G H Q Qv Xv} S h k kx => by
    refine ho.run S h (fun r1 γ1 as1 v1 G1 H1 p1 g1 S1 rr1 q1 => ?_) kx
    exact ⟨isStr_ok S1 rr1 q1.1, hr.run S1 rr1 .nil q1.2 (k.mono p1 g1) (kx.mono p1 g1)⟩
/-! ### join -/
theorem strs_inv {G : Hp} : ∀ {vs : List V} {ys : List Str}, RpAll K G vs (ys.map T.str) → vs = ys.map V.str ∧ ∀ y ∈ ys, PyData.strOk y = true
  | _, [], .nil => ⟨rfl, by simp⟩
  | _, y :: ys, .cons (.str _ h) b => by
    obtain ⟨e, o⟩ := strs_inv b
    refine ⟨by rw [e]; rfl, fun z hz => ?_⟩
    rcases List.mem_cons.mp hz with rfl | hz
    · exact h
    · exact o z hz
theorem strOk_join {a : Str} (ha : PyData.strOk a = true) : ∀ ys : List Str, (∀ y ∈ ys, PyData.strOk y = true) → PyData.strOk (Str.join a ys) = true
  | [], _ => strOk_empty
  | [x], h => h x List.mem_cons_self
  | x :: z :: r, h => by
    show PyData.strOk (x ++ a ++ Str.join a (z :: r)) = true
    exact strOk_app (strOk_app (h x List.mem_cons_self) ha) (strOk_join ha (z :: r) fun y hy => h y (List.mem_cons_of_mem _ hy))
def rJoin (K : PySem.W.Frag) : V → List V → Hp → VK → Prop := fun x xs H Q => ∃ a p, ∃ ys : List Str, x = .str a ∧ xs = [.ref p] ∧ (SqL K H p (ys.map V.str) ∨ SqT K H p (ys.map V.str)) ∧
      (ys.map (·.length)).sum + ys.length * a.length ≤ 16777216 ∧ Q (.str (Txt.join a ys)) H
theorem pe_joinK {X : Cx} {o e : Expr} {to te : TE} {apos pos : Pos} (ek : X.K = K) (ho : PE X o to) (he : PE X e te) (hs : starEach [e] X.env = [(false, eval e X.env)]) (hbase : attributeBase o "join" X.env (eval o X.env) = eval o X.env) (hline : (apos.endLine == pos.line) = true) :
    PE X (.Call (.Attribute o "join" apos) [e] [] pos) (tM1 (rJoin K) to te) := ek ▸ pe_join ho he hs hbase hline
def vJoinM : Rf → List Rf → VW := fun r rs γ Q _ => arg1 rs fun y => peek r γ fun t => match t with
  | .str a => peek y γ fun u => seqT u fun _ ts => ∃ ys : List Str, ts = ys.map T.str ∧ (ys.map (·.length)).sum + ys.length * a.length ≤ 16777216 ∧ Q (.val (.str (Str.join a ys))) γ
  | _ => False
instance : VM K B E (rJoin K) vJoinM where
  run := fun {as γ σ G H x rx vs rs Q Qv Xv} S rr rrs h kk _ => by
    unfold vJoinM arg1 at h
    split at h
    · cases rrs with | cons a0 b =>
      cases b
      obtain ⟨t, h, z⟩ := peek_rp S rr h
      split at h
      · cases z with | str _ ok =>
        obtain ⟨bb, ts, p, acc, rfl, sq, rp, ys, rfl, hz, q⟩ := peek_seq S a0 h
        obtain ⟨rfl, oy⟩ := strs_inv rp
        refine ⟨_, p, ys, rfl, rfl, sq.or, hz, ?_⟩
        rw [TL.join_eq]
        exact kval kk S (.str _ (strOk_join ok ys oy)) q
      · exact h.elim
    · exact h.elim
end
theorem len_app (a b : Str) : (a ++ b).length = a.length + b.length := by
  show (a.cps ++ b.cps).size = _
  rw [Array.size_append]; rfl
theorem join_len (a : Str) : ∀ ys : List Str, (Str.join a ys).length ≤ (ys.map (·.length)).sum + ys.length * a.length
  | [] => Nat.zero_le _
  | [x] => by show x.length ≤ x.length + 0 + 1 * a.length; omega
  | x :: z :: r => by
    show (x ++ a ++ Str.join a (z :: r)).length ≤ _
    have := join_len a (z :: r)
    rw [len_app, len_app, List.map_cons, List.sum_cons, List.length_cons, Nat.succ_mul]
    omega
/-- a sign of a text -/
theorem isS_chr {z : Str} {i : Int} {Q : T → Prop} (h0 : 0 ≤ i) (h1 : i < (z.length : Int)) (h : ∀ c : Nat, Q (.str ⟨#[c]⟩)) : isS (atL z.cps.toList i) fun c => Q (.str ⟨#[c]⟩) := by
  obtain ⟨c, e, _⟩ := atL_at z.cps.toList h0 (by rw [Array.length_toList]; exact h1)
  exact isS_i e (h c)
/-- where a text stands first -/
def fx (pts : List Str) (x : Str) : Nat := pts.findIdx (· == x)
theorem fx_lt {pts : List Str} {x : Str} (h : x ∈ pts) : fx pts x < pts.length := List.findIdx_lt_length_of_exists ⟨x, h, by simp⟩
theorem index_ok {pts : List Str} {x : Str} (h : x ∈ pts) {Q : Nat → Prop} (k : Q (fx pts x)) : (okD (.str x) = true ∧ okD (.lst (pts.map T.str)) = true) ∧ ∃ (j : Nat) (z : T), (pts.map T.str)[j]? = some z ∧ eqT z (.str x) = true ∧ (∀ (m : Nat) (z' : T), m < j → (pts.map T.str)[m]? = some z' → eqT z' (.str x) = false) ∧ Q j := by
  refine ⟨⟨rfl, encStr.list.ok (by decide) pts⟩, fx pts x, .str x, ?_, ?_, ?_, k⟩
  · have hl := fx_lt h
    rw [List.getElem?_map, List.getElem?_eq_getElem hl]
    have := List.findIdx_getElem (w := hl)
    rw [show pts[fx pts x] = x by unfold fx; simpa using this]
    rfl
  · exact encStr.self x
  · intro m z' hm e
    rw [List.getElem?_map] at e
    cases em : pts[m]? with
    | none => rw [em] at e; cases e
    | some y =>
      rw [em] at e
      cases e
      obtain ⟨hl, rfl⟩ := List.getElem?_eq_some_iff.mp em
      have := List.not_of_lt_findIdx hm
      rw [encStr.eq]
      simpa using this
end VL
set_option Elab.async false
set_option linter.all false
set_option maxRecDepth 100000
set_option maxHeartbeats 4000000
/-! methods of lists in comprehensions: K told, nothing left to be found -/
namespace VL
open PySem PySem.Spec PyProof.Rows L2 XR
section
variable {X : Cx} {K : PySem.W.Frag} (ek : X.K = K)
include ek
theorem mt_indexK (hu : X.A.units + 65 < cLine) : MtR X "list.index" (rIndexD K) := ek ▸ mt_indexD hu
theorem pe_bmK {T id : String} {name : Str} {r : V → List V → Hp → VK → Prop} {o e : Expr} {es : List Expr} {to : TE} {t : TA} {apos cpos : Pos} (pa : PlainAttrs T) (slot : Slot T name id) (hty : typeOf (.builtin id) = pure (.type "method_descriptor")) (hm : MtR X id r) (ho : PE X o to) (ha : PA X (e :: es) t)
    (hbase : attributeBase o name X.env (eval o X.env) = eval o X.env)
    (hfew : ((backTo cpos (starEach (e :: es) X.env)).all (fun x => !x.1) && (backToKw cpos (keywordEach [] X.env)).all (fun x => x.1.isSome)
      && decide ((e :: es).length + ([] : List Keyword).length + (if ([] : List Keyword).isEmpty then 0 else 1) < 30)) = true)
    (hline : (apos.endLine == cpos.line) = true) (hs : starEach (e :: es) X.env = (false, eval e X.env) :: starEach es X.env) (hplain : (backTo cpos (starEach es X.env)).any (·.1) = false) :
    PE X (.Call (.Attribute o name apos) (e :: es) [] cpos) (tBM K T r to t) := ek ▸ pe_bm pa slot hty hm ho ha hbase hfew hline hs hplain
end
end VL
set_option Elab.async false
set_option linter.all false
set_option maxRecDepth 100000
set_option maxHeartbeats 4000000
/-! calls of instances; defs whose one parameter takes all arguments -/
namespace VL
open PySem PySem.Spec PyProof.Rows L2 XR
theorem raw0 {P : Program} {w : World} {K : PySem.W.Frag} {mg : Str → Option Value} {base : Heap} {CX : CXT} {k : Nat} {f : Addr} {fd : FuncData} {ps : List Str} {sp : Sp} (F : FnOk P w K mg base CX k f fd ps sp) (hb : Binds K fd ps []) : FnR P w K mg base CX k f sp :=
  (F.raw hb .nil).imp fun vs H Q E h => by rw [List.append_nil]; exact h
section
variable {K : PySem.W.Frag} {B : Bs} {E : L2.St → XK} {sp : Sp} {wf : List Rf → Env → RQ → XQ → Prop} [hf : VF K sp wf] {C : Addr}
def vCallO (C : Addr) (wf : List Rf → Env → RQ → XQ → Prop) (wo : VW) (wa : Env → (List Rf → Env → Prop) → XQ → Prop) : VW := fun γ Q X => wo γ (fun r γ1 => peek r γ1 (isC C) ∧ wa γ1 (fun rs γ2 => peek r γ2 (isC C) ∧ wf (r :: rs) γ2 Q noX) X) X
instance {X : Cx} {tf : TE} {t : TA} {wo : VW} {wa : Env → (List Rf → Env → Prop) → XQ → Prop} [ho : VE K B E tf wo] [ha : VA K B E t wa] : VE K B E (StX.tCallO X C sp E0 tf t) (vCallO C wf wo wa) where
  run := fun {as γ σ G H Q Qv Xv} S h k kx => by
    refine ho.run S h (fun r γ1 as1 v G1 H1 p1 g1 S1 rr1 q1 => ?_) kx
    obtain ⟨a, dx, fs, rfl, e1⟩ := isC_ok S1 rr1 q1.1
    refine ⟨a, rfl, ha.run S1 q1.2 (fun rs γ2 as2 vs G2 H2 p2 g2 S2 rr2 q2 => ?_) (kx.mono p1 g1)⟩
    have rr := RR.mono rr1 p2 g2
    obtain ⟨a', dx', fs', e', e2⟩ := isC_ok S2 rr q2.1
    cases e'
    exact ⟨.inr ⟨dx', fs', e2⟩, hf.run S2 (.cons rr rr2) q2.2 ((k.mono p1 g1).mono p2 g2) kxno⟩
end
section
variable {P : Program} {w : World} {K : PySem.W.Frag} {mg : Str → Option Value} {base : Heap}
theorem okStarV {x qual : Str} {st : Stmt} {f : Addr} {fd : FuncData} {N : List Str} {pv : Str} {k : Nat} {fv : VSp} (F : Fun K x qual st f fd) (S : FnScope N [pv] (defScope st)) (hN : 1 ≤ N.length)
    (hb : ∀ (kV doc pm : Value) (an : Option Addr) (cdv ct : Value) (rest : List Value), bindArgs (PySem.W.fnOf x qual (defArgs st) (defBody st) (defScope st) .none kV doc pm an cdv ct) { pos := rest } = (do let t ← newTuple rest; pure [(pv, t)]))
    (body : ∀ (cdv : Value) (A : Around) (outer : List PySem.Env) (s : Shared) (H : Hp) (E : XK), Room k (A.deeper (envOfC qual (defScope st) s.heap.objs.size f cdv)) →
      ∃ t, PSs (cxOf (L2.CX P w) P w K mg base N qual (defScope st) f cdv A outer s H E) (defBody st) t ∧ ∃ wv, (∀ B : Bs, VS K B (fun _ => E) t wv) ∧ ∀ (ts : List T) (Qv : Rt → List T → Prop) (Xv : VErr → List T → Prop), fv ts Qv Xv → wv (env0 [false] ts (N.length - 1)) (endsX Qv Xv)) :
    FnR P w K mg base (L2.CX P w) (k + 1) f (XR.spStar (vsp K [false] fv)) := by
  refine XR.okStar F S hb fun cdv A outer s H vs Q E hr h => ?_
  obtain ⟨t, hp, wv, hv, go⟩ := body cdv A outer s H E hr
  obtain ⟨G, ts, Qv, Xv, vw, ar, nd, hf, kr, kx⟩ := h
  refine ⟨t, hp, ?_⟩
  have hl : vs.length = 1 := ar.len
  have S0 := start_ok (N := N) vw ar nd (by omega)
  have q := go ts Qv Xv hf
  rw [← hl] at q
  refine (hv _).run S0 q ⟨fun γ' as' σ' G' H' _ _ S' z => ?_, fun _ _ _ _ _ _ _ _ z => z.elim, fun _ _ _ _ _ _ _ _ z => z.elim, fun σ' r γ' as' v G' H' _ _ S' rr z => ?_, fun σ' e γ' as' d G' H' _ _ S' er z => ?_⟩
  · obtain ⟨o, f, z⟩ := fin_of S' z
    exact kr (.val .non) _ _ _ _ f Rp.non z
  · obtain ⟨rt, o, f, rr, z⟩ := rt_of S' rr z
    exact kr _ _ _ _ _ f rr z
  · obtain ⟨o, f, z⟩ := fin_of S' z
    exact kx e _ d G' H' f er z
end
instance {K : PySem.W.Frag} {fv : VSp} : VF K (XR.spStar (vsp K [false] fv)) (fun rs γ Q X => toTs rs γ fun ts γ1 => small ts.length ∧ callQ [false] fv [.val (.tup ts)] γ1 Q X) := ⟨fun {B as γ σ G H rs vs Q E1 Qv Xv} S rr h k kx => by
  obtain ⟨ts, γ1, G1, g1, S1, rp, hz, q⟩ := toTs_ok S rr h
  refine ⟨by rw [rp.length]; exact hz, fun p hp => ?_⟩
  obtain ⟨S2, g2⟩ := S1.lay (o := .tup vs) hp
  have rp2 : Rp K (L2.upd G1 p (.tup vs)) (.ref p) (.tup ts) := .tup (.inl upd_same) (rp.mono g2)
  exact call_ok S2 (.cons (show RR K B.ex as _ (.val (.tup ts)) (.ref p) from rp2) .nil) q (k.mono (List.prefix_refl _) (g1.trans g2)) (kx.mono (List.prefix_refl _) (g1.trans g2))⟩
end VL
set_option Elab.async false
set_option linter.all false
set_option maxRecDepth 100000
set_option maxHeartbeats 4000000
/-! comprehensions over an open list that stands as it is -/
namespace VL
open PySem PySem.Spec PyProof.Rows L2 XR
section
variable {γ1 : Env} {vs : List Nat} {step : T → Env → (Env → Prop) → Prop} {Q : RQ} {α : Type} {xs : List α} {f : α → T} {k : Nat}
theorem lc_live {ts : List T} (hon : ∀ out, nth (EL γ1 vs out).mem k = some (.mu (.lst ts))) (I : Nat → List T → Prop) (i0 : I 0 []) (hs : ∀ i t out, ts[i]? = some t → I i out → step t ((EL γ1 vs out).wipe vs) (NL γ1 vs (I (i + 1)))) (hd : ∀ out, I ts.length out → Q (.ref γ1.mem.length) (EL γ1 vs out)) : LcI (.live k ts) γ1 vs step Q := by
  unfold NL at hs
  refine ⟨fun i γ => ∃ out, γ = EL γ1 vs out ∧ I i out, ⟨EL γ1 vs [], .refl _, [], rfl, i0⟩, fun i γ2 h => ?_, fun i t γ2 e h => ?_, fun γ2 h => ?_⟩
  · obtain ⟨out, rfl, _⟩ := h
    exact hon out
  · obtain ⟨out, rfl, p⟩ := h
    exact hs i t out e p
  · obtain ⟨out, rfl, p⟩ := h
    exact hd out p
theorem lc_mapL (hon : ∀ out, nth (EL γ1 vs out).mem k = some (.mu (.lst (xs.map f)))) (g : α → T) (hs : ∀ (i : Nat) x out, xs[i]? = some x → out.length < xs.length → step (f x) ((EL γ1 vs out).wipe vs) (NL γ1 vs (fun o => o = out ++ [g x]))) (hd : Q (.ref γ1.mem.length) (EL γ1 vs (xs.map g))) : LcI (.live k (xs.map f)) γ1 vs step Q := by
  refine lc_live hon (fun i out => out = (xs.take i).map g) rfl (fun i t out e h => ?_) fun out h => ?_
  · subst h
    rw [List.getElem?_map] at e
    cases ex : xs[i]? with
    | none => rw [ex] at e; cases e
    | some x =>
      rw [ex] at e
      cases e
      have := hs i x ((xs.take i).map g) ex (by have := (List.getElem?_eq_some_iff.mp ex).1; rw [List.length_map, List.length_take]; omega)
      rw [XR.take_one ex, List.map_append]
      exact this
  · subst h
    rw [List.length_map, List.take_length]
    exact hd
end
end VL
set_option Elab.async false
set_option linter.all false
set_option maxRecDepth 100000
set_option maxHeartbeats 4000000
/-! isinstance(e, (C1, C2, ..)) of a handled error -/
namespace VL
open PySem PySem.Spec PyProof.Rows L2 XR
def clsT : Rf → Bool
  | .val (.ty _) => true
  | .val (.cls _) => true
  | _ => false
def okN : List Rf → Bool
  | [] => false
  | r :: rs => Nat.ble rs.length 900
def errAny (K : PySem.W.Frag) (D : Addr) : List Rf → (Bool → Prop) → Prop
  | [], Q => Q false
  | r :: rs, Q => match r with
    | .val c => ∃ b, ErrIs K D c b ∧ br b (rs.all clsT = true ∧ Q true) (errAny K D rs Q)
    | _ => False
section
variable {K : PySem.W.Frag} {B : Bs} {E : L2.St → XK} {ex : Addr × Value × Option Addr} {as : List Addr} {G : Hp} {D : Addr}
theorem clsT_all (vw : Same G H) : ∀ {rs : List Rf} {vs : List V}, RRs K ex as G rs vs → rs.all clsT = true → ∃ us, Paired ClsV vs us
  | [], _, .nil, _ => ⟨[], .nil⟩
  | r :: rs, v :: vs, .cons a b, h => by
    rw [List.all_cons, Bool.and_eq_true] at h
    obtain ⟨us, hu⟩ := clsT_all vw b h.2
    match r, a, h.1 with
    | .val (.ty n), a, _ => exact ⟨_, .cons (ClR.ok (.ty n) (show Rp K G v (.ty n) from a)) hu⟩
    | .val (.cls n), a, _ => exact ⟨_, .cons (ClR.ok (.cls n) (show Rp K G v (.cls n) from a)) hu⟩
theorem errAny_ok (vw : Same G H) : ∀ {rs : List Rf} {vs : List V} {Q : Bool → Prop}, RRs K ex as G rs vs → errAny K D rs Q → ∃ us b, Paired ClsV vs us ∧ PySem.W.kitAny K (.ref D) us = some b ∧ Q b
  | [], _, _, .nil, h => ⟨[], false, .nil, rfl, h⟩
  | r :: rs, v :: vs, Q, .cons a b, h => by
    match r, a, h with
    | .val c, a, h =>
      obtain ⟨x, ⟨_, u, hu, hk⟩, q⟩ := h
      have hv : ClsV v u := hu.ok (show Rp K G v c from a)
      cases x with
      | true =>
        obtain ⟨q1, q2⟩ := q
        obtain ⟨us, hus⟩ := clsT_all vw b q1
        exact ⟨u :: us, true, .cons hv hus, by unfold PySem.W.kitAny; rw [hk], q2⟩
      | false =>
        obtain ⟨us, y, hus, e, q2⟩ := errAny_ok vw b q
        exact ⟨u :: us, y, .cons hv hus, by unfold PySem.W.kitAny; rw [hk]; exact e, q2⟩
theorem errAny_asks {rs : List Rf} {Q : Bool → Prop} (h0 : okN rs = true) (h : errAny K D rs Q) : XR.Asks K D := by
  match rs, h0, h with
  | .val c :: rs, _, h =>
    obtain ⟨_, ⟨as_, _⟩, _⟩ := h
    exact as_
  | .ref k :: rs, _, h => exact h.elim
  | .err _ _ :: rs, _, h => exact h.elim
def vIsET (K : PySem.W.Frag) (we : VW) (wa : Env → (List Rf → Env → Prop) → XQ → Prop) : VW := fun γ Q X => we γ (fun r γ1 => wa γ1 (fun rs γ2 => match r with
  | .err D _ => okN rs = true ∧ errAny K D rs fun b => Q (.val (.bl b)) γ2
  | _ => False) X) X
instance {a : Addr} {cls : Value} {d : Option Addr} {te : TE} {ta : TA} {we : VW} {wa : Env → (List Rf → Env → Prop) → XQ → Prop} [he : VE K (B.hot a cls d) E te we] [ha : VA K (B.hot a cls d) E ta wa] :
    VE K (B.hot a cls d) E (tCB (rIsAT K cls d a) (tCons te (tCons (tTup ta) tNil))) (vIsET K we wa) where
  run := fun {as γ σ G H Q Qv Xv} S h k kx => by
    refine he.run S h (fun r1 γ1 as1 v1 G1 H1 p1 g1 S1 rr1 q1 => ?_) kx
    refine ha.run S1 q1 (fun rs γ2 as2 vs G2 H2 p2 g2 S2 rr2 q2 => ?_) (kx.mono p1 g1)
    have hl : vs.length = rs.length := by
      clear q2
      induction rr2 with
      | nil => rfl
      | cons _ _ ih => rw [List.length_cons, List.length_cons, ih]
    match r1, rr1, q2 with
    | .err D gs, rr1, q2 =>
      obtain ⟨h0, q2⟩ := q2
      have hz : rs.length ≤ 901 := by
        match rs, h0 with
        | _ :: rs, h0 => have := Nat.le_of_ble_eq_true h0; rw [List.length_cons]; omega
      refine ⟨by show _ ≤ sizeLine; rw [sizeLine_eq, hl]; omega, fun p hp => ?_⟩
      have as_ := errAny_asks h0 q2
      obtain ⟨us, b, hu, hk, q⟩ := errAny_ok S2.vw rr2 q2
      obtain ⟨S3, g3⟩ := S2.lay (o := .tup vs) hp
      have rr1 := (RR.mono rr1 p2 g2).mono (List.prefix_refl _) g3
      obtain ⟨rfl, ec, er⟩ := rr1
      have ec : cls = .ref D := ec
      subst ec
      have kk := kval (((k.mono p1 g1).mono p2 g2).mono (List.prefix_refl _) g3) S3 (.bl b) q
      rcases er with ⟨e1, _⟩ | ⟨dd, fs, e1, e2, _⟩
      · have e1 : d = none := e1
        exact .inr ⟨_, p, vs, us, b, rfl, e1, as_, rfl, upd_same, hu, hk, kk⟩
      · have e1 : d = some dd := e1
        exact .inl ⟨_, dd, p, fs, vs, us, b, rfl, e1, S3.vw _ _ e2, as_, rfl, upd_same, hu, hk, kk⟩
end
end VL
set_option Elab.async false
set_option linter.all false
set_option maxRecDepth 100000
set_option maxHeartbeats 4000000
/-! comprehensions whose item may raise: what a call lets out goes on through the block of names -/
namespace CpX
open PySem PySem.Spec PyProof.Rows L2
theorem frames_but {B B' h h' : Heap} : ∀ {l : List Env}, h.FunFrames B l → (∀ L ∈ frs l, h'.get? L = h.get? L) → (∀ b o, B'.get? b = some o → B.get? b = some o) → h'.FunFrames B' l
  | [], _, _, _ => trivial
  | env :: l, x, e, sub => by
    obtain ⟨hk, ⟨L, o, hL, none_, there, nf⟩, more⟩ := x
    have here : h'.get? L = h.get? L := e L (List.mem_filterMap.mpr ⟨env, List.mem_cons_self, hL⟩)
    refine ⟨hk, ⟨L, o, hL, ?_, here.trans there, nf⟩, frames_but more (fun b hb => ?_) sub⟩
    · match q : B'.get? L with
      | none => rfl
      | some u => have z := sub L u q; rw [none_] at z; cases z
    · obtain ⟨f, hf, q⟩ := List.mem_filterMap.mp hb
      exact e b (List.mem_filterMap.mpr ⟨f, List.mem_cons_of_mem _ hf, q⟩)
section
variable {X : Cx} {pins : List (Addr × Obj)} {σ : L2.St} {H5 : Hp} {s7 s8 : Shared} {u : Value} {E : XK} {W : WX} {ce : Env} {m : Str → Option Value}
theorem comp_air (hs : X.stack = X.env :: X.outer) (hf : X.env.frame = some X.env.locals) (hcf : ce.frame = X.env.frame) (tk : Takes X W) (hW : ∀ cls d H, E cls d H → W cls d σ H)
    (I : Inv X pins σ H5 s7) (hn : s7.heap.Ns ce.locals m) (hC : FpOk X pins H5 ce.locals) (c : CX X.prog X.w X.stack H5 s7 E u s8) :
    notedBy (model X.prog X.w) X.A ce (CompFails (model X.prog X.w) X.A X.xe ce) u s8 := by
  obtain ⟨a, B, H', cls, d, rfl, fly, hokB, ub, na, os, ag, hE⟩ := c
  generalize hCe : ce.locals = C at hn hC
  obtain ⟨c0, c1, c2, c3, c4, c5⟩ := hC
  have outC : C ∉ frs X.stack := fun z => (List.mem_cons.mp (I.stkSub C z)).elim c1 c2
  obtain ⟨oC, es, ep, atC, kindC, restC⟩ := hn
  have freeC : H' C = none := ub.free C oC atC c0
  have stays : B.StaysIn s8.heap := fly.1
  -- the state without the exception's objects and without the block of names
  obtain ⟨G, g1, g2⟩ := restrict s8.heap fun b => ((B.get? b).isSome || decide (b ∈ frs X.stack)) && !decide (b = C)
  obtain ⟨BX, b1, b2⟩ := restrict B fun b => !decide (b = C)
  have intoG : ∀ b o, b ≠ C → B.get? b = some o → G.get? b = some o := fun b o ne e => by
    rw [g1 b (by simp [e, ne])]
    exact stays b o e
  have frameG : ∀ b, b ∈ frs X.stack → G.get? b = s8.heap.get? b := fun b hb => g1 b (by simp [hb]; exact fun z => outC (z ▸ hb))
  have outG : ∀ b o, G.get? b = some o → s8.heap.get? b = some o ∧ b ≠ C ∧ ((B.get? b).isSome = true ∨ b ∈ frs X.stack) := fun b o e => by
    cases q : (((B.get? b).isSome || decide (b ∈ frs X.stack)) && !decide (b = C)) with
    | false => rw [g2 b q] at e; cases e
    | true =>
      rw [g1 b q] at e
      rw [Bool.and_eq_true, Bool.or_eq_true] at q
      exact ⟨e, by simpa using q.2, q.1.imp id (fun z => by simpa using z)⟩
  have ofBX : ∀ b o, BX.get? b = some o → b ≠ C ∧ B.get? b = some o := fun b o e => by
    cases q : (!decide (b = C)) with
    | false => rw [b2 b q] at e; cases e
    | true => rw [b1 b q] at e; exact ⟨by simpa using q, e⟩
  have toBX : ∀ b o, b ≠ C → B.get? b = some o → BX.get? b = some o := fun b o ne e => by rw [b1 b (by simp [ne])]; exact e
  have hokG : HOk X.prog X.w H' G := fun b o q => (hokB b o q).stay (fun y v hy r => intoG y v (fun z => by
    subst z
    rcases hy with hy | hy
    · rw [← hy, freeC] at q; cases q
    · rw [freeC] at hy; cases hy) r) (fun _ r => r) fun _ _ r => r
  have IG : Inv X pins σ H' { s7 with heap := G, gens := s8.gens, drawn := s8.drawn, toks := s8.toks } := by
    refine I.call (ch := [C]) ⟨fun b o e n hb hc => intoG b o (by simpa using hc) (ub.keep b o e n hb), fun b o e n hb hc => ?_, fun b o e n hc => ub.free b o e n, fun b o e hc => ?_, ub.tups, ub.frzs, ub.tbls⟩ hokG ag fun b hb => ?_
    · obtain ⟨sl, q⟩ := ub.slot b o e hb
      exact ⟨sl, (frameG b hb).trans q⟩
    · by_cases hb : b ∈ frs X.stack
      · obtain ⟨sl, q⟩ := ub.slot b o e hb
        exact ⟨_, (frameG b hb).trans q⟩
      · obtain ⟨o', q⟩ := ub.there b o e hb
        exact ⟨o', intoG b o' (by simpa using hc) q⟩
    · obtain rfl : b = C := by simpa using hb
      exact ⟨c3, c1, c4, c5⟩
  -- noted in the def's own frame
  have same : noteFrame (.ref a) ce = noteFrame (.ref a) X.env := by unfold noteFrame PySem.frameOf; rw [hcf]
  have hfr : X.A.frames = some (X.env :: X.outer) := by rw [I.ok.frames, hs]
  unfold notedBy
  rw [same]
  rw [hs] at fly
  refine HandSPX.looks_onZ Zc.steady hfr hf fly fun h9 held up9 => ?_
  have at8 : s8.heap.get? C = some oC := stays C oC (ub.keep C oC atC c0 outC)
  have nfC : ∀ vs, oC.data ≠ .fields vs := fun vs z => by rw [kindC] at z; cases z
  obtain ⟨slC, at9⟩ := up9 C oC at8 nfC
  refine ⟨m, hCe ▸ ⟨_, es, ep, at9, kindC, restC⟩, fun h' m' _ sb => ?_⟩
  rw [hCe] at sb
  -- the names let go
  obtain ⟨k1, k2, k3, oe, vs, T, oT, ts, he, hz, hd, h1, hnT, hTe, hT, hdT, h3⟩ := held
  have ne_of : ∀ {b : Addr} {o : Obj} {ws : Array Value}, h9.get? b = some o → o.data = .fields ws → b ≠ C := fun {b o ws} e q z => by
    subst z
    rw [at9] at e
    cases e
    exact nfC ws q
  have aC := ne_of he hd
  have tC := ne_of hT hdT
  have subBX : ∀ b o, BX.get? b = some o → B.get? b = some o := fun b o e => (ofBX b o e).2
  have noneBX : ∀ b, B.get? b = none → BX.get? b = none := fun b e => by
    match q : BX.get? b with
    | none => rfl
    | some o => have := subBX b o q; rw [e] at this; cases this
  have held' : HandSPX.HeldZ BX (X.env :: X.outer) a (Zc cls d) X.env.locals h' := by
    refine ⟨fun b o e => ?_, noneBX a k2, frames_but k3 (fun L hL => sb.2 L fun z => outC (by rw [hs, ← z]; exact hL)) subBX, oe, vs, T, oT, ts, (sb.2 a aC).trans he, hz, hd, h1, noneBX T hnT, hTe, (sb.2 T tC).trans hT, hdT, h3⟩
    obtain ⟨ne, e⟩ := ofBX b o e
    exact (sb.2 b ne).trans (k1 b o e)
  have he' : h'.get? a = some oe := (sb.2 a aC).trans he
  unfold PySem.passOn
  refine wpAny_bind (wpAny_field he' hd h1 ?_)
  rw [if_neg (show ¬ ((Value.ref T == Value.none) = true) from by simp)]
  have fin : wpAny (model X.prog X.w) X.A (setFlight (.ref a) ce.frame) (fun _ s4 => wpAny (model X.prog X.w) X.A (throw (.ref a) : Sem Value) (fun _ _ => False) X.xe s4) X.xe { s8 with heap := h' } := by
    rw [hcf, hf]
    refine HandSPX.setFlight_onZ held' fun h2 held2 up2 => wpAny_throw (tk _ _ ?_)
    refine ⟨a, BX, _, pins, σ, H', cls, d, rfl, IG, fun b o e hb => ?_, fun b o e nf => ?_, .inr (.inr (by rw [hs]; exact held2)), na, os, ag, hW cls d H' hE⟩
    · obtain ⟨e1, e2, e3⟩ := outG b o e
      rcases e3 with e3 | e3
      · obtain ⟨o', q⟩ := Option.isSome_iff_exists.mp e3
        have := stays b o' q
        rw [e1] at this
        cases this
        exact toBX b o e2 q
      · exact absurd e3 hb
    · obtain ⟨e1, e2, _⟩ := outG b o e
      obtain ⟨sl, q⟩ := up9 b o e1 nf
      obtain ⟨sl2, q2⟩ := up2 b { o with slots := sl } ((sb.2 b e2).trans q) nf
      exact ⟨sl2, q2⟩
  first
    | exact wpAny_bind (wpAny_pure (wpAny_bind fin))
    | exact wpAny_bind fin
end
end CpX
set_option Elab.async false
set_option linter.all false
set_option maxRecDepth 100000
set_option maxHeartbeats 4000000
/-! the rule of such a comprehension -/
namespace CpX
open PySem PySem.Spec PyProof.Rows L2
section
variable {X : Cx} {elt tg iter : Expr} {ifs : List Expr} {scope : Scope} {own : List (Str × Nat)} {pos pos' : Pos} {wi : TI} {g : TG} {tt : TT} {te : TE} {E : XK} {W : WX}
/-- its item's context: what a callee lets out is taken -/
abbrev ItemOk (X : Cx) (scope : Scope) (E : XK) (elt : Expr) (te : TE) : Prop := ∀ (s : Shared) (H : Hp) (C : Addr) (cl : List (Str × Addr)) (fp : List Addr) (xe : Value → Shared → Prop),
  Passes (L2.CX X.prog X.w) ((X.blk s H scope (compEnvC scope cl C X.env) fp).wish xe) E → PE ((X.blk s H scope (compEnvC scope cl C X.env) fp).wish xe) elt te
theorem lcx_run {pins : List (Addr × Obj)} {s : Shared} {σ : L2.St} {H : Hp} {Q : VK} {use : Option (Value → Sem Unit)} {Qf : Value → Shared → Prop}
    (hs : X.stack = X.env :: X.outer) (hf : X.env.frame = some X.env.locals) (tk : Takes X W) (hW : ∀ cls d σ H, E cls d H → W cls d σ H) (hc : X.calm = true) (hN : X.N.Nodup) (I : Inv X pins σ H s) (hi : PI X tg iter wi) (ok : BlkOk X.N X.env.scope scope own)
    (hg : ∀ (s : Shared) (H : Hp) (C : Addr) (cl : List (Str × Addr)) (fp : List Addr), PG (X.blk s H scope (compEnvC scope cl C X.env) fp) tg g)
    (ht : ∀ (s : Shared) (H : Hp) (C : Addr) (cl : List (Str × Addr)) (fp : List Addr), PTs (X.blk s H scope (compEnvC scope cl C X.env) fp) ifs tt)
    (he : ItemOk X scope E elt te) (hfs : ∀ x, foldedSetIterable iter X.env x = pure x) (h : tLc wi g tt te (own.map (·.2)) σ H Q)
    (land : ∀ D ce s' m H', Inv X pins σ H' s' → Q (.ref D) H' → s'.heap.Ns ce.locals m → FpOk X pins H' ce.locals → compEnds (model X.prog X.w) X.A X.xe use Qf (.ref D) ce (.ok .next) s') :
    wpAny (model X.prog X.w) X.A (comprehension (.ListComp elt [⟨tg, iter, ifs, 0⟩] scope pos) scope X.env pos' (newList []) false (eval iter X.env) use) Qf X.xe s := by
  have closed : ∀ y ∈ scope.names, y.2 = .free → ∃ c, X.env.cells.lookup y.1 = some c := fun y hy e => (ok.free y hy e).elim (fun z => I.ok.has _ (.inl z)) fun z => I.ok.has _ (.inr z)
  refine comprehension_at (use := use) rfl hfs (closure_ok closed) ok.kind (fun y hy e => by rw [ok.uniq y hy, e]) ?_
  refine thn (hi.run pins s σ H _ I h) fun xv s1 made1 => thn made1 fun itv s2 made2 => ?_
  obtain ⟨it, fp, tn, J, H2, rfl, I2, turns, st2, f2, q⟩ := made2
  refine wpAny_newObj_type (newEnv_comp ?_) (by show 0 ≤ sizeLine; decide)
  generalize eD : s2.heap.objs.size = D
  have noD : H2 D = none := I2.hok.fresh (Nat.le_of_eq eD)
  obtain ⟨Wn, ⟨m0, w0⟩, steps⟩ := q D noD
  -- the list is laid
  generalize e3 : ({ s2 with heap := s2.heap.push { cls := .type "list", data := .seq ([] : List Value).toArray } } : Shared) = s3
  have heap3 : s3.heap = s2.heap.push { cls := .type "list", data := .seq ([] : List Value).toArray } := by rw [← e3]
  generalize eH : upd H2 D (.lst []) = H3 at w0
  have I3 : Inv X pins σ H3 s3 := by
    rw [← e3, ← eH]
    refine I2.laid (t' := s2.toks) (fun b o z => Heap.get?_push_of_some _ z) (Nat.le_of_eq eD) ⟨Nat.zero_le _, [], 0, .nil, ?_⟩
    rw [← eD]
    exact Heap.get?_push_size _ rfl
  have f3 : ∀ b ∈ fp, FpOk X pins H3 b ∧ b < s3.heap.objs.size := fun b hb => by
    obtain ⟨o, z, _⟩ := turns.obj _ _ st2 b hb
    have lt : b < s2.heap.objs.size := Heap.lt_size z
    refine ⟨⟨?_, (f2 b hb).2⟩, by rw [heap3, Heap.size_push]; exact Nat.lt_succ_of_lt lt⟩
    rw [← eH, upd_ne (by rw [← eD]; exact Nat.ne_of_lt lt)]
    exact (f2 b hb).1
  have st3 : tn 0 s3.heap := turns.keep _ _ _ st2 fun b _ o z => by rw [heap3]; exact Heap.get?_push_of_some _ z
  -- the block of names
  have I4 := block_start I3 ok hN f3
  generalize ecl : cellsFrom (s3.heap.objs.size + 1) scope.names (cloFrom X.env.cells scope.names []) = cl at I4
  have pg := hg s3 H3 s3.heap.objs.size cl fp
  have pt := ht s3 H3 s3.heap.objs.size cl fp
  have pe := he s3 H3 s3.heap.objs.size cl fp
  obtain ⟨ce, ece⟩ : ∃ ce, ce = compEnvC scope cl s3.heap.objs.size X.env := ⟨_, rfl⟩
  rw [← ece] at I4 pg pt pe
  have eL : ce.locals = s3.heap.objs.size := by rw [ece]; rfl
  have eF : ce.frame = X.env.frame := by rw [ece]; rfl
  generalize e4 : ({ s3 with heap := pushCells (s3.heap.push { cls := .type "dict", data := .dict #[] }) scope.names } : Shared) = s4 at I4
  have st4 : tn 0 s4.heap := turns.keep _ _ _ st3 fun b _ o z => by rw [← e4]; exact pushCells_keeps _ _ _ _ (Heap.get?_push_of_some _ z)
  -- back in the def's context
  have back : ∀ {ps : List (Addr × Obj)} {τ : L2.St} {G : Hp} {r : Shared}, Inv (X.blk s3 H3 scope ce fp) ps τ G r → Inv X pins σ G r ∧ (∃ m, r.heap.Ns ce.locals m) ∧ FpOk X pins G ce.locals := fun {ps τ G r} J => by
    refine ⟨I3.call' (ch := fp) J.os J.base J.hok J.bare fun b hb => ?_, ?_, ?_⟩
    · obtain ⟨⟨_, z1, _, z3, z4, z5⟩, _⟩ := f3 b hb
      exact ⟨z3, z1, z4, z5⟩
    · obtain ⟨m, hm, _⟩ := J.loc
      exact ⟨m, hm⟩
    · have z : G ce.locals = none := J.free
      exact I3.fpOk (by rw [eL]; exact Nat.le_refl _) z
  have keepOk : ∀ {τ : L2.St} {G : Hp} {r : Shared}, Inv (X.blk s3 H3 scope ce fp) [] τ G r → (∀ b ∈ fp, G b = none) → ∀ b ∈ fp, FpOk (X.blk s3 H3 scope ce fp) [] G b := fun {τ G r} J no b hb =>
    ⟨no b hb, (J.ok.exf b hb).1, J.ok.exfs b hb, .inl hb, fun x c z => (J.ok.exf b hb).2 x c z, fun p hp => absurd (show p ∈ ([] : List (Addr × Obj)) ++ [] from hp) (by simp)⟩
  obtain ⟨R, eR⟩ : ∃ R, R = compEnds (model X.prog X.w) X.A X.xe use Qf (.ref D) ce := ⟨_, rfl⟩
  -- what the item's callees let out
  have air : Passes (L2.CX X.prog X.w) ((X.blk s3 H3 scope ce fp).wish (notedBy (model X.prog X.w) X.A ce fun e r => R (.error e) r)) E := fun ps τ G r u r' J c => by
    obtain ⟨J1, ⟨m, hm⟩, J3⟩ := back (Inv.unwish J)
    have z := comp_air hs hf eF tk (fun cls d H hE => hW cls d σ H hE) J1 hm J3 c
    have same : (fun e r => R (.error e) r) = CompFails (model X.prog X.w) X.A X.xe ce := by
      rw [eR]
      funext e r
      cases use <;> rfl
    rw [same]
    exact z
  have pe := pe _ air
  have loop : codeAny (model X.prog X.w) X.A (.compLoop (.ListComp elt [⟨tg, iter, ifs, 0⟩] scope pos) 0 (.ref it) (.ref D) ce) R s4 := by
    refine compLoop_any (fun n r => ∃ i G, Inv (X.blk s3 H3 scope ce fp) [] (wipe σ (own.map (·.2))) G r ∧ tn i r.heap ∧ (∀ b ∈ fp, G b = none) ∧ Wn i n G) ?_ m0 ⟨0, H3, I4, st4, fun b hb => (f3 b hb).1.1, w0⟩
    rintro n r5 ⟨i, G5, J5, st5, n5, w5⟩
    rcases steps i n G5 w5 with ⟨stop, qq⟩ | ⟨go, Nxt, hNxt, step⟩
    · refine thnF (turns.done (X.blk s3 H3 scope ce fp) rfl rfl rfl hc i [] r5 _ G5 (fun _ _ => False) J5 (keepOk J5 n5) st5 stop) fun _ r6 ⟨hr, J6⟩ => ?_
      subst hr
      obtain ⟨J7, ⟨m, hm⟩, J8⟩ := back J6
      rw [eR]
      exact land D ce r6 m G5 J7 qq hm J8
    · refine thnF (turns.item (X.blk s3 H3 scope ce fp) rfl rfl rfl hc i [] r5 _ G5 (fun _ _ => False) J5 (keepOk J5 n5) st5 go) fun _ r6 ⟨u, hr, more⟩ => ?_
      subst hr
      refine thnF more fun _ r7 ⟨x, G7, J7, rx, y7, st7, n7⟩ => ?_
      refine thnF (pg.run _ r7 _ G7 x u _ (J7.pinned (keepOk J7 n7) (turns.obj _ _ st7)) rx (step x G7 y7)) fun _ r8 ⟨τ, G8, J8, sameW, q8⟩ => ?_
      refine thnF (pt.run _ r8 τ G8 _ J8 q8) fun b r9 ⟨G9, J9, q9⟩ => ?_
      have close : ∀ {r : Shared} {G : Hp}, Inv (X.blk s3 H3 scope ce fp) ([] ++ pinsAt fp r7.heap) τ G r → Nxt G → ∃ m, m < n ∧ ∃ i G, Inv (X.blk s3 H3 scope ce fp) [] (wipe σ (own.map (·.2))) G r ∧ tn i r.heap ∧ (∀ b ∈ fp, G b = none) ∧ Wn i m G := fun {r G} J nx => by
        obtain ⟨m', less, w'⟩ := hNxt G nx
        have stay : ∀ b ∈ fp, ∀ o, r7.heap.get? b = some o → r.heap.get? b = some o ∧ G b = none := fun b hb o z => by
          have := J.pin (b, o) (List.mem_append_right _ (List.mem_append_right _ (mem_pinsAt hb z)))
          exact ⟨this.1, this.2.1⟩
        refine ⟨m', less, i + 1, G, Inv.weak (Inv.unpinned (pins := []) J) (by rw [← sameW, wipe_length]) (fun j v z => (wipe_some (by rw [sameW]; exact z)).1), turns.keep _ _ _ st7 fun b hb o z => (stay b hb o z).1, fun b hb => ?_, w'⟩
        obtain ⟨o, z, _⟩ := turns.obj _ _ st7 b hb
        exact (stay b hb o z).2
      cases b with
      | false => exact close J9 (by simpa using q9)
      | true =>
        rw [if_pos rfl] at q9 ⊢
        refine wpAny_mono (pe.run _ r9 τ G9 _ (Inv.wish J9 _) q9) (fun z r10 done => ?_) fun _ _ z => z
        obtain ⟨yv, G10, J10, ry, acc, hD, hz, nx⟩ := done
        exact L2.app_ok (X := X.blk s3 H3 scope ce fp) (Inv.unwish J10) hD hz ry fun r11 J11 => close J11 nx
  have start := codeAny_compStart_list loop (turns.self X.A 0 _ _ _ st4 loop)
  subst eR ece e4 ecl
  exact start
end
end CpX
set_option Elab.async false
set_option linter.all false
set_option maxRecDepth 100000
set_option maxHeartbeats 4000000
/-! such comprehensions as a value, and stored on one line; their reading over values -/
namespace CpX
open PySem PySem.Spec PyProof.Rows L2
/-- the reading of a comprehension whose item may raise -/
def tLcX (wi : TI) (g : TG) (tt : TT) (te : TE) (vs : List Nat) : TE := fun σ H Q => tLc wi g tt te vs σ H Q
section
variable {X : Cx} {elt tg iter : Expr} {ifs : List Expr} {scope : Scope} {own : List (Str × Nat)} {pos : Pos} {wi : TI} {g : TG} {tt : TT} {te : TE} {E : XK} {W : WX}
theorem pe_lcX (hs : X.stack = X.env :: X.outer) (hf : X.env.frame = some X.env.locals) (tk : Takes X W) (hW : ∀ cls d σ H, E cls d H → W cls d σ H) (hc : X.calm = true) (hN : X.N.Nodup) (hi : PI X tg iter wi) (ok : BlkOk X.N X.env.scope scope own)
    (hg : ∀ (s : Shared) (H : Hp) (C : Addr) (cl : List (Str × Addr)) (fp : List Addr), PG (X.blk s H scope (compEnvC scope cl C X.env) fp) tg g)
    (ht : ∀ (s : Shared) (H : Hp) (C : Addr) (cl : List (Str × Addr)) (fp : List Addr), PTs (X.blk s H scope (compEnvC scope cl C X.env) fp) ifs tt)
    (he : ItemOk X scope E elt te) (hfs : ∀ x, foldedSetIterable iter X.env x = pure x := by intro _; rfl) :
    PE X (.ListComp elt [⟨tg, iter, ifs, 0⟩] scope pos) (tLcX wi g tt te (own.map (·.2))) := by
  refine ⟨fun pins s σ H Q I h => ?_⟩
  rw [eval_ListComp]
  refine lcx_run hs hf tk hW hc hN I hi ok hg ht he hfs h fun D ce s' m H' J q hm fC => ⟨m, hm, fun h2 sb => ?_⟩
  obtain ⟨z0, z1, z2, z3, z4, z5⟩ := fC
  exact ⟨.ref D, H', J.turned (t' := s'.toks) (fun b o ne e => (sb.2 b ne).trans e) z0 z1 z3 z4 z5, rfl, q⟩
theorem ps_setLcX {i : Nat} {y : Str} {py spos : Pos} (hs : X.stack = X.env :: X.outer) (hf : X.env.frame = some X.env.locals) (tk : Takes X W) (hW : ∀ cls d σ H, E cls d H → W cls d σ H) (hc : X.calm = true) (hN : X.N.Nodup)
    (hy : X.N[i]? = some y) (hyl : X.env.scope.names.lookup y = some .local) (hsw : swapsWith (.ListComp elt [⟨tg, iter, ifs, 0⟩] scope pos) (some (.Name y py)) spos.line X.env = pure true) (hi : PI X tg iter wi) (ok : BlkOk X.N X.env.scope scope own)
    (hg : ∀ (s : Shared) (H : Hp) (C : Addr) (cl : List (Str × Addr)) (fp : List Addr), PG (X.blk s H scope (compEnvC scope cl C X.env) fp) tg g)
    (ht : ∀ (s : Shared) (H : Hp) (C : Addr) (cl : List (Str × Addr)) (fp : List Addr), PTs (X.blk s H scope (compEnvC scope cl C X.env) fp) ifs tt)
    (he : ItemOk X scope E elt te) (hfs : ∀ x, foldedSetIterable iter X.env x = pure x := by intro _; rfl) :
    PS X (.Assign [.Name y py] (.ListComp elt [⟨tg, iter, ifs, 0⟩] scope pos) spos) (tAsg (tLcX wi g tt te (own.map (·.2))) (gName i)) := by
  refine ⟨fun pins s σ H D I h => ?_⟩
  rw [exec_Assign_Name_used _ _ _ _ hsw]
  refine wpAny_bind (wpAny_standAt (wpAny_bind ?_))
  have h2 : tLc wi g tt te (own.map (·.2)) σ H (fun x H1 => gName i x σ H1 D.nx) := h
  show wpAny _ X.A (do let _ ← comprehension (.ListComp elt [⟨tg, iter, ifs, 0⟩] scope pos) scope X.env (firstIterPos [⟨tg, iter, ifs, 0⟩] pos) (newList []) false (eval iter X.env) (some (assign (.Name y py) X.env))) _ _ s
  refine wpAny_bind (thn (lcx_run (Qf := fun _ r => SP X pins D .next r) hs hf tk hW hc hN I hi ok hg ht he hfs h2 fun L ce s' m H' J q hm fC => ?_) fun _ _ hq => wpAny_pure (wpAny_pure hq))
  refine wpAny_assign_Name (store_ok2 (v := V.ref L) J hN hy (.inl hyl) rfl (fun s2 J2 ⟨a, sb, there⟩ => ?_) (.inr hyl))
  obtain ⟨z0, z1, z2, z3, z4, z5⟩ := fC
  have ne : ce.locals ≠ a := there.elim (fun z => by rw [z]; exact z1) fun z e => z4 y a z e.symm
  exact ⟨m, hm.sameBut sb ne, fun h3 sb3 => ⟨_, H', J2.turned (t' := s2.toks) (fun b o hb e => (sb3.2 b hb).trans e) z0 z1 z3 z4 z5, q⟩⟩
end
end CpX
namespace VL
open PySem PySem.Spec PyProof.Rows L2 XR CpX
section
variable {K : PySem.W.Frag} {B : Bs}
theorem wipe_state {as : List Addr} {γ : Env} {σ σ' : L2.St} {G H : Hp} {vs : List Nat} (S : StR K B as γ σ' G H) (h : L2.wipe σ' vs = L2.wipe σ vs) : StR K B as (γ.wipe vs) σ G H :=
  (S.wipe vs).rewipe (vs := vs) h.symm fun i r e => Env.wipe_none γ e
def vLcX (wi : Env → (Src → Env → Prop) → XQ → Prop) (wg : Rf → Env → (Env → Prop) → XQ → Prop) (wt : Env → (Bool → Env → Prop) → XQ → Prop) (we : VW) (vs : List Nat) : VW := fun γ Q X => wi γ (fun src γ1 =>
  LcI src γ1 vs (fun t γ2 N => wg (.val t) γ2 (fun γ3 => wt γ3 (fun c γ4 => br c (we γ4 (fun r γ5 => toT r γ5 fun t' γ6 => appQ γ1.mem.length t' γ6 N) (fun e γ5 => X e (γ5.wipe vs))) (N γ4)) noX) noX) Q) X
instance {E1 : XK} {wi : TI} {g : TG} {tt : TT} {te : TE} {vs is : List Nat} {vi : Env → (Src → Env → Prop) → XQ → Prop} {vg : Rf → Env → (Env → Prop) → XQ → Prop} {vt : Env → (Bool → Env → Prop) → XQ → Prop} {ve : VW} [hi : VI K B (fun _ => E1) wi vi] [hg : VG K B (fun _ => E1) g vg is] [ht : VT K B (fun _ => E1) tt vt] [he : VE K B (fun _ => E1) te ve] [hs : SubL is vs] :
    VE K B (fun _ => E1) (tLcX wi g tt te vs) (vLcX vi vg vt ve vs) where
  run := fun {as γ σ G H Q Qv Xv} S h k kx => by
    refine hi.run S h (fun src γ1 as1 G1 H1 J p1 g1 S1 ok q1 => ?_) kx
    intro Da hD
    obtain ⟨⟨I, ⟨γ0, le0, i0⟩, on, step, done⟩⟩ := q1
    have SD := (S1.alloc (t := .lst []) (o := .lst []) hD ⟨[], upd_same, .nil⟩)
    have lD : (as1 ++ [Da]).length = γ1.mem.length + 1 := by rw [List.length_append, S1.mlen]; rfl
    have aD : (as1 ++ [Da])[γ1.mem.length]? = some Da := by rw [← S1.mlen, List.getElem?_append_right (Nat.le_refl _), Nat.sub_self]; rfl
    obtain ⟨as0, G0, pp0, gg0, SS0⟩ := StR.le le0 (SD.wipe vs) (List.prefix_refl _) lD
    refine ⟨fun i m H' => m = src.ts.length - i ∧ i ≤ src.ts.length ∧ ∃ as' γ' G', as1 ++ [Da] <+: as' ∧ Same G1 G' ∧ StR K B as' γ' σ G' H' ∧ I i γ', ⟨_, rfl, Nat.zero_le _, as0, γ0, G0, pp0, gg0, SS0, i0⟩, ?_⟩
    rintro i m H' ⟨rfl, hi', as', γ', G', p', g', S', inv⟩
    have pq : as1 <+: as' := (List.prefix_append _ _).trans p'
    obtain ⟨go, stop, yld⟩ := ok pq g' S' (on i γ' inv)
    by_cases hlt : i < src.ts.length
    · refine .inr ⟨go i hlt, fun H'' => i + 1 ≤ src.ts.length ∧ ∃ as'' γ'' G'', as1 ++ [Da] <+: as'' ∧ Same G1 G'' ∧ StR K B as'' γ'' σ G'' H'' ∧ I (i + 1) γ'', fun H'' q => ⟨_, by omega, rfl, q.1, q.2⟩, fun x H'' hy => ?_⟩
      obtain ⟨G2, t, et, g2, S2, rp⟩ := yld i x H'' hlt hy
      have S2' : StR K B as' (γ'.wipe vs) (L2.wipe σ vs) G2 H'' := (S2.wipe vs).rewipe (vs := vs) (wipe_wipe σ vs) fun i r e => Env.wipe_none γ' e
      refine hg.run S2' (r := .val t) rp (step i t γ' et inv) (fun γ3 as3 σ3 G3 H3 p3 g3 S3 w3 q3 => ?_) kxno
      have ws : L2.wipe σ3 vs = L2.wipe σ vs := (w3 vs hs.h).trans (wipe_wipe σ vs)
      refine ⟨ws, ht.run S3 q3 (fun b γ4 as4 b' G4 H4 p4 g4 S4 e q4 => ?_) kxno⟩
      cases e
      have gG : Same G1 G4 := (g'.trans g2).trans (g3.trans g4)
      have pP : as1 ++ [Da] <+: as4 := p'.trans (p3.trans p4)
      have fin : ∀ {γ5 : Env} {as5 : List Addr} {G5 H5 : Hp}, Same G1 G5 → as1 ++ [Da] <+: as5 → StR K B as5 γ5 σ3 G5 H5 → (∃ γ6, Le (γ1.mem.length + 1) (γ5.wipe vs) γ6 ∧ I (i + 1) γ6) → i + 1 ≤ src.ts.length ∧ ∃ as'' γ'' G'', as1 ++ [Da] <+: as'' ∧ Same G1 G'' ∧ StR K B as'' γ'' σ G'' H5 ∧ I (i + 1) γ'' := by
        rintro γ5 as5 G5 H5 gg pp S5 ⟨γ6, le6, i6⟩
        obtain ⟨as7, G7, p7, g7, S7⟩ := StR.le le6 (wipe_state S5 ws) pp lD
        exact ⟨hlt, as7, γ6, G7, p7, gg.trans g7, S7, i6⟩
      cases b with
      | false => exact fin gG pP S4 q4
      | true =>
        refine he.run S4 q4 (fun r γ5 as5 v G5 H5 p5 g5 S5 rr5 q5 => ?_) fun e γ5 as5 d G5 H5 p5 g5 S5 er q5 => ?_
        · obtain ⟨t', γ6, G6, g6, S6, rp6, q6⟩ := toT_ok S5 rr5 q5
          have pp : as1 ++ [Da] <+: as5 := pP.trans p5
          obtain ⟨acc, e1, e2, γ7, S7, q7⟩ := app_ok S6 (pre_get pp aD) rp6 q6
          exact ⟨acc, e1, e2, fin (gG.trans (g5.trans g6)) pp S7 q7⟩
        · exact kx e _ as5 d G5 H5 (p1.trans ((List.prefix_append _ _).trans (pP.trans p5))) (g1.trans (gG.trans g5)) (wipe_state S5 ws) er q5
    · have e : i = src.ts.length := by omega
      subst e
      refine .inl ⟨stop, k (.ref γ1.mem.length) _ _ _ _ _ (p1.trans pq) (g1.trans g') S' ⟨Da, pre_get p' aD, rfl⟩ (done γ' inv)⟩
end
end VL
set_option Elab.async false
set_option linter.all false
set_option maxRecDepth 100000
set_option maxHeartbeats 4000000
/-! except without a name -/
namespace VL
open PySem PySem.Spec PyProof.Rows L2 XR
section
variable {K : PySem.W.Frag} {B : Bs} {E : L2.St → XK}
def tTryO (K : PySem.W.Frag) (c : Value) (ts : Addr → Value → Option Addr → TS) (tb : WX → TS) : TS := fun D σ H => tb (wOnly K c ts (fun _ _ _ _ => False) D) D σ H
theorem ps_tryO {X : Cx} {x : Str} {c : Value} {body suite : List Stmt} {b₀ : Stmt} {np pos pos' : Pos} {tb : WX → TS} {ts : Addr → Value → Option Addr → TS} (hs : X.stack = X.env :: X.outer) (hf : X.env.frame = some X.env.locals) (hc : Names X x c) (tk : Takes X (fun _ _ _ _ => False))
    (hb : ∀ (W : WX) (pn : List (Addr × Obj)) (xe : Value → Shared → Prop), Takes (X.tr pn xe) W → PassesOwn (model X.prog X.w) X.A X.env xe → PSs (X.tr pn xe) body (tb W))
    (hsu : ∀ (a : Addr) (oe : Obj) (cls : Value) (d : Option Addr) (pn : List (Addr × Obj)), Zc cls d oe → (∃ vs, oe.data = .fields vs) → PSs (X.suite a ((a, oe) :: pn)) (b₀ :: suite) (ts a cls d)) :
    PS X (.Try body [.ExceptHandler (some (.Name x np)) none (b₀ :: suite) pos'] [] [] pos) (tTryO X.K c ts tb) := ps_try_only hs hf hc tk hb hsu
def suiteO (D : VEnds) : VEnds := ⟨fun γ2 => D.nx γ2.noErr, rtE D.rt, fun γ2 => D.bk γ2.noErr, fun γ2 => D.ct γ2.noErr, noX⟩
def vTryO (K : PySem.W.Frag) (c : Value) (wb ws : VSW) : VSW := fun γ D => wb γ ⟨D.nx, D.rt, D.bk, D.ct, fun e γ1 => PySem.W.exmOne K (.ref e.1) c = some true ∧ ws γ1.noErr (suiteO D)⟩
instance {c : Value} {ts : Addr → Value → Option Addr → TS} {tb : WX → TS} {wb ws : VSW} [hb : ∀ W : WX, VS K B (WE W) (tb W) wb] [hs : ∀ (a : Addr) (cls : Value) (d : Option Addr), VS K (B.hot a cls d) E (ts a cls d) ws] : VS K B E (tTryO K c ts tb) (vTryO K c wb ws) where
  run := fun {as γ σ G H D Dv} S h k => by
    refine (hb _).run S h ⟨k.nx, k.bk, k.ct, k.rt, fun σ1 e γ1 as1 d G1 H1 p1 g1 S1 er q1 => ?_⟩
    obtain ⟨em, q1⟩ := q1
    refine ⟨true, em, fun _ a ha => ?_, fun z => by cases z⟩
    have S2 : StR K (B.hot a (.ref e.1) d) as1 γ1.noErr σ1 G1 H1 := S1.reex rfl rfl rfl
    have back : ∀ {γ2 : Env} {as2 : List Addr} {σ2 : L2.St} {G2 H2 : Hp}, StR K (B.hot a (.ref e.1) d) as2 γ2 σ2 G2 H2 → StR K B as2 γ2.noErr σ2 G2 H2 := fun {γ2 as2 σ2 G2 H2} S4 => S4.reex rfl rfl rfl
    refine (hs a (.ref e.1) d).run (Dv := suiteO Dv) S2 q1 ⟨fun γ2 as2 σ2 G2 H2 p2 g2 S4 q => ?_, fun γ2 as2 σ2 G2 H2 p2 g2 S4 q => ?_, fun γ2 as2 σ2 G2 H2 p2 g2 S4 q => ?_, fun σ2 r γ2 as2 v G2 H2 p2 g2 S4 rr q => ?_, fun σ2 => kxno⟩
    · exact k.nx _ _ _ _ _ (p1.trans p2) (g1.trans g2) (back S4) q
    · exact k.bk _ _ _ _ _ (p1.trans p2) (g1.trans g2) (back S4) q
    · exact k.ct _ _ _ _ _ (p1.trans p2) (g1.trans g2) (back S4) q
    · have S5 : StR K B as2 γ2.noErr σ2 G2 H2 := back S4
      cases r with
      | err D gs => exact q.elim
      | val t => exact k.rt σ2 (.val t) γ2.noErr as2 v G2 H2 (p1.trans p2) (g1.trans g2) S5 rr q
      | ref n => exact k.rt σ2 (.ref n) γ2.noErr as2 v G2 H2 (p1.trans p2) (g1.trans g2) S5 rr q
end
end VL
set_option Elab.async false
set_option linter.all false
set_option maxRecDepth 100000
set_option maxHeartbeats 4000000
/-! C.m(*xs), m a staticmethod with a star parameter -/
namespace XR
open PySem PySem.Spec PyProof.Rows L2
def tStatS (K : PySem.W.Frag) (C : Addr) (sp : Sp) (ES : L2.St → XK) (ta te : TE) : TE := fun σ H Q => ta σ H fun x H1 => x = .ref C ∧ te σ H1 fun y H2 => ∃ a xs, y = V.ref a ∧ (SqT K H2 a xs ∨ SqL K H2 a xs) ∧ sp xs H2 Q (ES σ)
section
variable {X : Cx} {CX : CXT} {k : Nat} {C p g : Addr} {sp : Sp} {m : Str} {o e : Expr} {apos pos sq : Pos} {ta te : TE} {ES : L2.St → XK}
theorem star_one {M : Model} {A : Around} {F : Value → Shared → Prop} {s : Shared} {env : Env} {Q : Value → Shared → Prop} (hb : attributeBase o m env (eval o env) = eval o env) (hst : starEach [.Starred e sq] env = [(true, eval e env)])
    (h : wpAny M A (eval o env) (fun ov s₁ => wpAny M A (getAttr ov m true) (fun f s₂ => wpAny M A (callWith pos f [] (backTo pos (starEach [.Starred e sq] env)) []) Q F s₂) F s₁) F s) : wpAny M A (eval (.Call (.Attribute o m apos) [.Starred e sq] [] pos) env) Q F s := by
  rw [hst] at h
  have f1 : methodCallForm ([Expr.Starred e sq].length + ([] : List Keyword).length) (backTo pos [(true, eval e env)]) [] = false := rfl
  have f2 : methodCallPos false o env apos pos = pure pos := rfl
  have f3 : ∀ ov, calleeOf false o env ov m = (getAttr ov m true >>= fun v => pure (v, [])) := fun _ => rfl
  rw [arm_eval_Call, hb, hst, show backToKw pos (keywordEach [] env) = [] from rfl]
  refine wpAny_bind (wpAny_mono h (fun ov s₁ q => wpAny_bind (wpAny_standAt ?_)) fun _ _ z => z)
  unfold methodCall
  rw [f1, f2, f3]
  refine wpAny_bind (wpAny_holding (wpAny_bind (wpAny_mono q (fun f s₂ q2 => wpAny_pure (wpAny_bind (wpAny_pure q2))) fun _ _ z => z)))
theorem attr_stat {pins : List (Addr × Obj)} {σ : L2.St} {H : Hp} {s : Shared} {b : Bool} {A : Around} {F : Value → Shared → Prop} {Q : Value → Shared → Prop} (I : Inv X pins σ H s) (r : CStat X.K C p g m) (h : ∀ s', Inv X pins σ H s' → Q (.ref g) s') :
    wpAny (model X.prog X.w) A (getAttr (.ref C) m b) Q F s := by
  obtain ⟨rest, hp⟩ := r.rc
  exact PySem.W.cls_bind I.kIn r.rd r.at_ (wpAny_call (PySem.W.sm_get (s := { s with toks := s.toks + 1 }) I.kIn hp (PySem.W.handed_on rfl (h _ (I.tok _)))))
theorem pe_statS {K : PySem.W.Frag} (ek : X.K = K) (ho : PE X o ta) (r : CStat X.K C p g m) (F : FnR X.prog X.w X.K X.mg X.base CX k g sp) (hr : Room k X.A) (hk : PySem.W.keepIn X.K (.ref g) = true) (hx : ∀ σ, PassesAt CX X σ (ES σ)) (he : PE X e te)
    (hst : starEach [.Starred e sq] X.env = [(true, eval e X.env)] := by rfl) (hb : attributeBase o m X.env (eval o X.env) = eval o X.env := by rfl) :
    PE X (.Call (.Attribute o m apos) [.Starred e sq] [] pos) (tStatS K C sp ES ta te) := by
  subst ek
  refine ⟨fun pins s σ H Q I h => ?_⟩
  refine star_one hb hst (thn (ho.run pins s σ H _ I h) fun u s1 ⟨x, H1, I1, rx, ex, q⟩ => ?_)
  subst ex
  obtain rfl : u = Value.ref C := rx
  refine attr_stat I1 r fun s2 I2 => ?_
  refine PySem.W.callWith_S (h₀ := X.base) I.ok.mod.kin hk (thn (he.run pins s2 σ H1 _ I2 q) fun v s3 ⟨y, H2, I3, ry, a, xs, ey, hxs, q2⟩ => ?_) hst
  subst ey
  obtain rfl : v = Value.ref a := ry
  exact StX.star_any I3 hxs fun us s4 I4 rv => ⟨I4.kIn, run_atR F hr rfl (hx σ) I4 rv q2⟩
end
end XR
namespace VL
open PySem PySem.Spec PyProof.Rows L2 XR
section
variable {K : PySem.W.Frag} {B : Bs} {E : L2.St → XK} {sp : Sp} {wf : List Rf → Env → RQ → XQ → Prop} [hf : VF K sp wf] {C : Addr}
theorem rrs_vals {ex : Addr × Value × Option Addr} {as : List Addr} {G : Hp} : ∀ {vs : List V} {ts : List T}, RpAll K G vs ts → RRs K ex as G (ts.map Rf.val) vs
  | _, _, .nil => .nil
  | _, _, .cons a b => .cons a (rrs_vals b)
def vStatS (C : Addr) (wf : List Rf → Env → RQ → XQ → Prop) (wo we : VW) : VW := fun γ Q X => wo γ (fun r γ1 => r = .val (.cls C) ∧ we γ1 (fun y γ2 => peek y γ2 fun u => seqT u fun _ ts => wf (ts.map Rf.val) γ2 Q X) X) X
instance {to te : TE} {wo we : VW} [ho : VE K B E to wo] [he : VE K B E te we] : VE K B E (tStatS K C sp E to te) (vStatS C wf wo we) where
  run := fun {as γ σ G H Q Qv Xv} S h k kx => by
    refine ho.run S h (fun r γ1 as1 v G1 H1 p1 g1 S1 rr1 q1 => ?_) kx
    obtain ⟨rfl, q1⟩ := q1
    have rr1 : Rp K G1 v (.cls C) := rr1
    cases rr1
    refine ⟨rfl, he.run S1 q1 (fun y γ2 as2 u G2 H2 p2 g2 S2 rr2 q2 => ?_) (kx.mono p1 g1)⟩
    obtain ⟨b, ts, a, acc, rfl, sq, rp, q3⟩ := peek_seq S2 rr2 q2
    refine ⟨a, acc, rfl, sq.or.symm, hf.run S2 (rrs_vals rp) q3 ((k.mono p1 g1).mono p2 g2) ((kx.mono p1 g1).mono p2 g2)⟩
end
end VL
set_option Elab.async false
set_option linter.all false
set_option maxRecDepth 100000
set_option maxHeartbeats 4000000
/-! x.split(sep), x.find(y), int(text) -/
namespace VL
open PySem PySem.Spec PyProof.Rows L2 XR
section
variable {K : PySem.W.Frag} {B : Bs} {E : L2.St → XK}
def rSplitS : V → List V → Hp → VK → Prop := fun x xs H Q => ∃ a b, x = .str a ∧ xs = [.str b] ∧ (b.length == 0) = false ∧ a.length + 2 ≤ sizeLine ∧ rNewStrs (Txt.split a b) H Q
def rFindS : V → List V → Hp → VK → Prop := fun x xs H Q => ∃ a b, x = .str a ∧ xs = [.str b] ∧ Q (.int (Txt.find a b)) H
theorem pe_splitS {X : Cx} {o e : Expr} {to te : TE} {apos pos : Pos} (ho : PE X o to) (he : PE X e te) (hs : starEach [e] X.env = [(false, eval e X.env)]) (hbase : attributeBase o "split" X.env (eval o X.env) = eval o X.env) (hline : (apos.endLine == pos.line) = true) :
    PE X (.Call (.Attribute o "split" apos) [e] [] pos) (tM1 rSplitS to te) := pe_split ho he hs hbase hline
theorem pe_findS {X : Cx} {o e : Expr} {to te : TE} {apos pos : Pos} (ho : PE X o to) (he : PE X e te) (hs : starEach [e] X.env = [(false, eval e X.env)]) (hbase : attributeBase o "find" X.env (eval o X.env) = eval o X.env) (hline : (apos.endLine == pos.line) = true) :
    PE X (.Call (.Attribute o "find" apos) [e] [] pos) (tM1 rFindS to te) := pe_m1 PySem.F.slot_str_find PySem.F.type_str_find mt_find ho he hs hbase hline
/-- the parts of a text, by its signs -/
def parts (sep : List Nat) (a : Str) : List Str := (TL.spl sep 0 [] a.cps.toList).map SX.S
theorem split_parts (a : Str) {sep : List Nat} (h : sep ≠ []) (k : sep.all (· < 256) = true) : Txt.split a (SX.S sep) = parts sep a := by
  have := SX.split_S (a := a.cps.toList) h k
  rw [SX.S_tl] at this
  exact this
theorem spl_mem {sep : List Nat} : ∀ (k : Nat) (acc l : List Nat) (p : List Nat), p ∈ TL.spl sep k acc l → ∀ c ∈ p, c ∈ acc ∨ c ∈ l
  | k, acc, [], p, h, c, hc => by
    rw [TL.spl_nil] at h
    rw [List.mem_singleton.mp h] at hc
    exact .inl hc
  | 0, acc, d :: r, p, h, c, hc => by
    unfold TL.spl at h
    split at h
    · rcases List.mem_cons.mp h with h | h
      · rw [h] at hc; exact .inl hc
      · rcases spl_mem _ [] r p h c hc with z | z
        · cases z
        · exact .inr (List.mem_cons_of_mem _ z)
    · rcases spl_mem 0 (acc ++ [d]) r p h c hc with z | z
      · rcases List.mem_append.mp z with z | z
        · exact .inl z
        · rw [List.mem_singleton.mp z]; exact .inr List.mem_cons_self
      · exact .inr (List.mem_cons_of_mem _ z)
  | k + 1, acc, d :: r, p, h, c, hc => by
    unfold TL.spl at h
    rcases spl_mem k acc r p h c hc with z | z
    · exact .inl z
    · exact .inr (List.mem_cons_of_mem _ z)
theorem strOk_parts {sep : List Nat} {a : Str} (h : PyData.strOk a = true) : ∀ y ∈ parts sep a, PyData.strOk y = true := fun y hy => by
  obtain ⟨p, hp, rfl⟩ := List.mem_map.mp hy
  have h : a.cps.all (· < 0x110000) = true := h
  rw [Array.all_eq_true_iff_forall_mem] at h
  show (p.toArray : Array Nat).all (· < 0x110000) = true
  rw [Array.all_eq_true_iff_forall_mem]
  intro c hc
  rcases spl_mem 0 [] _ p hp c (by simpa using hc) with z | z
  · cases z
  · exact h c (by simpa using z)
theorem strs_rp {G : Hp} : ∀ {ys : List Str}, (∀ y ∈ ys, PyData.strOk y = true) → RpAll K G (ys.map V.str) (ys.map T.str)
  | [], _ => .nil
  | y :: ys, h => .cons (.str y (h y List.mem_cons_self)) (strs_rp fun z hz => h z (List.mem_cons_of_mem _ hz))
def vSplitM : Rf → List Rf → VW := fun r rs γ Q _ => arg1 rs fun y => peek r γ fun t => match t with
  | .str a => peek y γ fun u => match u with
    | .str b => ∃ sep, b = SX.S sep ∧ (sep.isEmpty = false ∧ sep.all (· < 256) = true) ∧ a.length + 2 ≤ sizeLine ∧ γ.new (.lst ((parts sep a).map T.str)) Q
    | _ => False
  | _ => False
instance : VM K B E rSplitS vSplitM where
  run := fun {as γ σ G H x rx vs rs Q Qv Xv} S rr rrs h kk _ => by
    unfold vSplitM arg1 at h
    split at h
    · cases rrs with | cons a0 b =>
      cases b
      obtain ⟨t, h, z⟩ := peek_rp S rr h
      split at h
      · cases z with | str _ ok =>
        obtain ⟨u, h, z2⟩ := peek_rp S a0 h
        split at h
        · cases z2 with | str _ ok2 =>
          obtain ⟨sep, rfl, ⟨h1, h2⟩, h3, h4⟩ := h
          have hne : sep ≠ [] := fun e => by rw [e] at h1; cases h1
          refine ⟨_, SX.S sep, rfl, rfl, ?_, h3, fun p hp => ?_⟩
          · rw [SX.S_len]
            cases sep with
            | nil => exact absurd rfl hne
            | cons _ _ => rfl
          · rw [split_parts _ hne h2]
            exact knew kk S (strs_rp (strOk_parts ok)) h4 hp
        · exact h.elim
      · exact h.elim
    · exact h.elim
def vFindM : Rf → List Rf → VW := fun r rs γ Q _ => arg1 rs fun y => peek r γ fun t => match t with
  | .str a => peek y γ fun u => match u with
    | .str b => Q (.val (.int (Txt.find a b))) γ
    | _ => False
  | _ => False
instance : VM K B E rFindS vFindM where
  run := fun {as γ σ G H x rx vs rs Q Qv Xv} S rr rrs h kk _ => by
    unfold vFindM arg1 at h
    split at h
    · cases rrs with | cons a0 b =>
      cases b
      obtain ⟨t, h, z⟩ := peek_rp S rr h
      split at h
      · cases z with | str _ ok =>
        obtain ⟨u, h, z2⟩ := peek_rp S a0 h
        split at h
        · cases z2 with | str _ ok2 =>
          exact ⟨_, _, rfl, rfl, kval kk S (.int _) h⟩
        · exact h.elim
      · exact h.elim
    · exact h.elim
def rIntS : List V → Hp → VK → Prop := fun xs H Q => ∃ a n, xs = [.str a] ∧ PySem.intText? a = some n ∧ a.length ≤ 640 ∧ Q (.int n) H
theorem call_intS {X : Cx} : CallR X (.type "int") rIntS := call_int_str
def vIntS : List Rf → VW := fun rs γ Q _ => arg1 rs fun r => peek r γ fun t => match t with
  | .str a => ∃ n, PySem.intText? a = some n ∧ a.length ≤ 640 ∧ Q (.val (.int n)) γ
  | _ => False
instance : VC K B E rIntS vIntS where
  run := fun {as γ σ G H vs rs Q Qv Xv} S rr h k _ => by
    unfold vIntS arg1 at h
    split at h
    · cases rr with | cons r1 b =>
      cases b
      obtain ⟨t, h, z⟩ := peek_rp S r1 h
      split at h
      · cases z with | str _ ok =>
        obtain ⟨n, h1, h2, h3⟩ := h
        exact ⟨_, n, rfl, h1, h2, kval k S (.int _) h3⟩
      · exact h.elim
    · exact h.elim
end
end VL
set_option Elab.async false
set_option linter.all false
set_option maxRecDepth 100000
set_option maxHeartbeats 4000000
/-! several except clauses, each with a name -/
namespace TrN
open PySem PySem.Spec PyProof.Rows L2
abbrev Clause := Value × Nat × (Addr → Value → Option Addr → TS)
def endAs (i : Nat) (D : Ends) : Ends := { nx := fun τ G => D.nx (τ.set i none) G, rt := D.rt, bk := fun τ G => D.bk (τ.set i none) G, ct := fun τ G => D.ct (τ.set i none) G }
def wList (K : PySem.W.Frag) (Wout : WX) (D : Ends) : List Clause → WX
  | [] => Wout
  | (c, i, ts) :: r => fun cls d σ H => ∃ b, PySem.W.exmOne K cls c = some b ∧ (b = true → ∀ a, H a = none → ts a cls d (endAs i D) (σ.set i (some (.ref a))) H) ∧ (b = false → wList K Wout D r cls d σ H)
inductive Cls (X : Cx) : List ExceptHandler → List Clause → Prop
  | nil : Cls X [] []
  | cons {x n : Str} {c : Value} {i : Nat} {ts : Addr → Value → Option Addr → TS} {b₀ : Stmt} {suite : List Stmt} {np hp : Pos} {hds : List ExceptHandler} {l : List Clause} (hi : X.N[i]? = some n) (hln : X.env.kindOf n = some .local) (hc : Names X x c)
      (hsu : ∀ (a : Addr) (oe : Obj) (cls : Value) (d : Option Addr) (pn : List (Addr × Obj)), Zc cls d oe → (∃ vs, oe.data = .fields vs) → PSs (X.suite a ((a, oe) :: pn)) (b₀ :: suite) (ts a cls d)) (r : Cls X hds l) :
      Cls X (.ExceptHandler (some (.Name x np)) (some n) (b₀ :: suite) hp :: hds) ((c, i, ts) :: l)
section
variable {X : Cx} {Wout : WX} {D : Ends} {pins : List (Addr × Obj)} {σ : L2.St} {H : Hp} {sI s : Shared} {a : Addr} {B h3 : Heap} {cls : Value} {d : Option Addr}
theorem clauses (hs : X.stack = X.env :: X.outer) (hf : X.env.frame = some X.env.locals) (hN : X.N.Nodup) (tk : Takes X Wout) (J : Inv X pins σ H sI) (nb : ∀ b o, sI.heap.get? b = some o → b ∉ frs X.stack → B.get? b = some o)
    (up : sI.heap.UpToSlots h3) (os : s.os = sI.os) (ag : AllBare s.gens) (na : H a = none) (fly : HandSPX.FlyingZ B (X.env :: X.outer) a (Zc cls d) h3) :
    ∀ {hds : List ExceptHandler} {l : List Clause}, Cls X hds l → wList X.K Wout D l cls d σ H → wpAny (model X.prog X.w) X.A (handleBy (.ref a) X.env hds) (SP X pins D) X.xe { s with heap := h3 } := by
  have ok := J.ok
  have J3 : Inv X pins σ H { s with heap := h3 } := J.landed nb fly.1 up os ag
  obtain ⟨oe3, vs3, he3, hz3, hd3⟩ := fly.there
  have outF : a ∉ frs (X.env :: X.outer) := fun hm => by
    obtain ⟨_, o, q, nf⟩ := fly.2.2.1.mem hm
    rw [he3] at q; cases q
    exact nf _ hd3
  have nL : a ≠ X.env.locals := fun z => outF (List.mem_filterMap.mpr ⟨X.env, List.mem_cons_self, by rw [hf, z]⟩)
  have nF : a ∉ X.fs := fun hm => by
    obtain ⟨e, he, q⟩ := List.mem_filterMap.mp hm
    exact outF (List.mem_filterMap.mpr ⟨e, List.mem_cons_of_mem _ he, q⟩)
  intro hds l hk
  induction hk with
  | nil =>
    intro w
    refine wpAny_handleBy_nil ?_
    obtain ⟨k1, k2, k3, oe, vs, T, oT, ts, he, hz, hd, h1, hr⟩ := id fly
    unfold PySem.passOn
    refine wpAny_bind (wpAny_field he hd h1 ?_)
    rw [if_neg (show ¬ ((Value.ref T == Value.none) = true) from by simp)]
    have fin : wpAny (model X.prog X.w) X.A (setFlight (.ref a) X.env.frame) (fun _ s4 => wpAny (model X.prog X.w) X.A (throw (.ref a) : Sem Flow) (SP X pins D) X.xe s4) X.xe { s with heap := h3 } := by
      rw [hf]
      refine HandSPX.setFlight_upZ fly fun h4 hh4 up4 => wpAny_throw (tk _ _ ?_)
      exact ⟨a, B, sI, pins, σ, H, cls, d, rfl, J, nb, up.trans up4, .inr (.inr (by rw [hs]; exact hh4)), na, os, ag, w⟩
    first
      | exact wpAny_bind (wpAny_pure (wpAny_bind fin))
      | exact wpAny_bind fin
  | @cons x n c i ts b₀ suite np hp hds2 l2 hi hln hc hsu r ih =>
    intro w
    obtain ⟨b, hb, yes, no⟩ := w
    have S3 := J3.suite he3 hd3 na nL nF
    refine wpAny_handleBy_cons (codeAny_handlers_test ?_) (by intro q; cases q)
    have looks : PySem.W.Looks (model X.prog X.w) h3 (typeOf (.ref a)) cls := fun A Q E s k q => wpAny_typeOf_ref (k _ _ he3) (by rw [hz3.1]; exact q)
    have match_ := PySem.W.exm_one (M := model X.prog X.w) J3.kIn looks hb
    have test : ∀ {Q : Value → Shared → Prop} {F : Value → Shared → Prop}, Q c { s with heap := h3 } → wpAny (model X.prog X.w) (X.A.mark (some (.ref a))) (eval (.Name x np) X.env) Q F { s with heap := h3 } := fun {Q F} q => by
      obtain ⟨hg, hdb, hm | ⟨hm, hv, hnn⟩⟩ := hc
      · exact ld_glob (X := X.suite a ((a, oe3) :: (X.pn ++ pins))) S3 hg hm q hdb
      · exact ld_blt (X := X.suite a ((a, oe3) :: (X.pn ++ pins))) S3 hg hm hv q hnn hdb
    refine test (match_.here ?_)
    cases b with
    | false => exact ih (no rfl)
    | true =>
      refine codeAny_handlers_suite_as ?_
      refine HandSPX.lands_againZ fly fun h4 fly4 up4 => ?_
      have J4 : Inv X pins σ H { s with heap := h4 } := J.landed nb fly4.1 (up.trans up4) os ag
      obtain ⟨oe4, vs4, he4, hz4, hd4⟩ := fly4.there
      have S4 := J4.suite he4 hd4 na nL nF
      refine store_ok (X := X.suite a ((a, oe4) :: (X.pn ++ pins))) (v := .ref a) S4 hN hi (.inl hln) rfl (fun s5 S5 => ?_) (.inr hln)
      refine wpAny_mono ((hsu a oe4 cls d (X.pn ++ pins) hz4 ⟨_, hd4⟩).run [] s5 _ H _ S5 (yes rfl a na)) (fun f s6 done => ?_) (fun _ _ z => False.elim z)
      have gone : ∀ {τ : L2.St} {G : Hp} {Q : Shared → Prop}, Inv (X.suite a ((a, oe4) :: (X.pn ++ pins))) [] τ G s6 → (∀ s7, Inv X pins (τ.set i none) G s7 → Q s7) →
          wpAny (model X.prog X.w) X.A (do bindName X.env n .none; unbindBehindTheSuite X.env n hp) (fun _ s7 => Q s7) X.xe s6 := fun {τ G Q} S6 hq => gone_ok (S6.unsuite ok) hN hi hln hq
      cases f with
      | ret u =>
        obtain ⟨v6, τ, G, S6, r6, q6⟩ := done
        exact gone S6 fun s7 J7 => ⟨_, _, _, J7, r6, q6⟩
      | next =>
        obtain ⟨τ, G, S6, q6⟩ := done
        exact gone S6 fun s7 J7 => ⟨_, _, J7, q6⟩
      | brk =>
        obtain ⟨τ, G, S6, q6⟩ := done
        exact gone S6 fun s7 J7 => ⟨_, _, J7, q6⟩
      | cont =>
        obtain ⟨τ, G, S6, q6⟩ := done
        exact gone S6 fun s7 J7 => ⟨_, _, J7, q6⟩
end
section
variable {X : Cx} {Wout : WX} {body : List Stmt} {h₀ : ExceptHandler} {hds : List ExceptHandler} {l : List Clause} {pos : Pos} {tb : WX → TS}
theorem ps_tryN (hs : X.stack = X.env :: X.outer) (hf : X.env.frame = some X.env.locals) (hN : X.N.Nodup) (tk : Takes X Wout)
    (hb : ∀ (W : WX) (pn : List (Addr × Obj)) (xe : Value → Shared → Prop), Takes (X.tr pn xe) W → PassesOwn (model X.prog X.w) X.A X.env xe → PSs (X.tr pn xe) body (tb W)) (hk : Cls X (h₀ :: hds) l) :
    PS X (.Try body (h₀ :: hds) [] [] pos) (fun D σ H => tb (wList X.K Wout D l) D σ H) := by
  refine ⟨fun pins s σ H D I h => ?_⟩
  have ok := I.ok
  have hfr : X.A.frames = some (X.env :: X.outer) := by rw [ok.frames, hs]
  refine wpAny_Try_except ?_
  have run := (hb (wList X.K Wout D l) (X.pn ++ pins) (fun e s₁ => wpAny (model X.prog X.w) X.A (noteFrame e X.env) (fun _ s₂ => wpAny (model X.prog X.w) X.A (setFlight e none) (fun _ s₃ =>
    wpAny (model X.prog X.w) X.A (handleBy e X.env (h₀ :: hds)) (SP X pins D) X.xe s₃) X.xe s₂) X.xe s₁) (fun u s' air => ?_) PassesOwn.looking).run [] s σ H D (I.toTry _) h
  · refine wpAny_mono run (fun f s1 done => ?_) (fun _ _ z => z)
    cases f with
    | ret u =>
      obtain ⟨v, τ, G, J, r, q⟩ := done
      exact ⟨v, τ, G, J.ofTry ok, r, q⟩
    | next =>
      obtain ⟨τ, G, J, q⟩ := done
      exact wpAny_execs_nil ⟨τ, G, J.ofTry ok, q⟩
    | brk =>
      obtain ⟨τ, G, J, q⟩ := done
      exact ⟨τ, G, J.ofTry ok, q⟩
    | cont =>
      obtain ⟨τ, G, J, q⟩ := done
      exact ⟨τ, G, J.ofTry ok, q⟩
  · obtain ⟨a, B, sI, pins', τ, G, cls, d, rfl, J', nb, up, sky, na, os, ag, w⟩ := air
    have J : Inv X pins τ G sI := J'.ofTry ok
    have sky' : Sky B (X.env :: X.outer) a (Zc cls d) X.env.locals s'.heap := by rw [← hs]; exact sky
    show wpAny (model X.prog X.w) X.A (noteFrame (.ref a) X.env) _ _ _
    exact Sky.land Zc.steady hfr hf sky' fun h3 fly up3 => clauses hs hf hN tk J nb (up.trans up3) os ag na fly hk w
end
end TrN
set_option Elab.async false
set_option linter.all false
set_option maxRecDepth 100000
set_option maxHeartbeats 4000000
/-! try with two named clauses, classmethods called at their class, cls(..) in them: rules and readings -/
namespace XR
open PySem PySem.Spec PyProof.Rows L2
/-- C.m(..), m a classmethod; E told at the caller's slots -/
def tCMethS (C : Addr) (sp : Sp) (ES : L2.St → XK) (ta : TE) (t : TA) : TE := fun σ H Q => ta σ H fun x H1 => x = .ref C ∧ t σ H1 fun vs H2 => sp (.ref C :: vs) H2 Q (ES σ)
/-- x(..), slot i holds the class at C -/
def tMakeV (i : Nat) (C : Addr) (sp : Sp) (E : XK) (t : TA) : TE := fun σ H Q => σ[i]? = some (some (.ref C)) ∧ tMake C sp [] E t σ H Q
section
variable {X : Cx} {CX : CXT} {k i : Nat} {C p g f : Addr} {mc : Value} {fd : FuncData} {ps : List Str} {sp : Sp} {ES : L2.St → XK} {E : XK} {o e : Expr} {es : List Expr} {m x : Str} {pos apos np : Pos} {ta : TE} {t : TA} {pl : Sem Bool}
theorem run_codeR {A : Around} {pins : List (Addr × Obj)} {σ : L2.St} {H : Hp} {s : Shared} {Q : VK} {us : List Value} {vs : List V} {F0 : XK} (F : FnR X.prog X.w X.K X.mg X.base CX k g sp) (hr : Room k A) (hA : A.frames = X.A.frames) (hx : PassesAt CX X σ F0)
    (I : Inv X pins σ H s) (r : Vals vs us) (h : sp vs H Q F0) : codeAny (model X.prog X.w) A (.call (.ref g) { pos := us, kw := [] }) (fun r s' => match r with
      | .ok (.ret v) => EP X pins σ Q v s'
      | .ok _ => False
      | .error e => X.xe e s') s := by
  have e0 : Env0 X.prog X.w X.K X.mg X.base A X.stack s H := by
    have e := I.env0
    exact ⟨by rw [hA]; exact e.frames, e.mod, e.bs, e.bsz, e.funs, e.frf, e.hok, e.bare⟩
  refine codeAny_mono (F A X.stack s H us vs Q F0 hr e0 r h) fun r s' hq => ?_
  match r, hq with
  | .error e, hq => exact hx pins H s e s' I hq
  | .ok (.ret u), hq => exact I.after hq
  | .ok .next, hq => exact hq
  | .ok .brk, hq => exact hq
  | .ok .cont, hq => exact hq
theorem pe_cmethS (ho : PE X o ta) (r : ClX.CRead X.K C mc) (c : ClX.CMet X.K C mc m p g) (F : FnR X.prog X.w X.K X.mg X.base CX k g sp) (hr : Room k X.A) (hx : ∀ σ, PassesAt CX X σ (ES σ)) (ha : PA X (e :: es) t)
    (hst : starEach (e :: es) X.env = (false, eval e X.env) :: starEach es X.env := by rfl) (hpl : (backTo pos (starEach es X.env)).any (·.1) = false := by rfl)
    (ht : eval (.Call (.Attribute o m apos) (e :: es) [] pos) X.env = (do
      let ov ← eval o X.env
      standAt apos.atName
      let (f, first) ← holding [ov] (getMethod ov m pl)
      callWith pos f first (backTo pos (starEach (e :: es) X.env)) (backToKw pos (keywordEach [] X.env))) := by rfl) :
    PE X (.Call (.Attribute o m apos) (e :: es) [] pos) (tCMethS C sp ES ta t) := by
  refine ⟨fun pins s σ H Q I h => ?_⟩
  refine PySem.W.methodCall_KW (pl := pl) (thn (ho.run pins s σ H _ I h) fun u s1 ⟨y, H1, I1, ry, ey, q⟩ => ?_) ht
  subst ey
  obtain rfl : u = Value.ref C := ry
  refine ClX.getmethcm_ok I1 r c fun s2 I2 => ?_
  refine ClX.callwith_cm I2 (ClX.base_none I1 (Nat.le_refl _)) c.fi (thn (ha.run pos _ s2 σ H1 _ I2 q) fun us s3 ⟨vs, H2, I3, rv, q2⟩ => ⟨⟨ClX.pin_at I3, I3.kIn⟩, ?_⟩) hst hpl
  have z := wpAny_call (PySem.W.method_call (ClX.pin_at I3) (run_codeR (us := .ref C :: us) (vs := .ref C :: vs) F hr rfl (hx σ) I3 (.cons rfl rv) q2))
  exact thn z fun _ _ w => ClX.unpinE w
theorem pe_makeV (M : Mk X.K C f) (F : FnOk X.prog X.w X.K X.mg X.base CX k f fd ps sp) (hr : Room (k + 1) X.A) (hN : X.N[i]? = some x) (hv : Vis X.env.scope x) (hb : Binds X.K fd ps []) (hx : Passes CX X E) (ha : PA X (e :: es) t)
    (hdb : (x == ("__debug__" : Str)) = false := by decide) (hcd : (x == ("__classdict__" : Str)) = false := by decide)
    (he : starEach (e :: es) X.env = (false, eval e X.env) :: starEach es X.env := by rfl) (hpl : (backTo pos (starEach es X.env)).any (·.1) = false := by rfl) : PE X (.Call (.Name x np) (e :: es) [] pos) (tMakeV i C sp E t) := by
  refine ⟨fun pins s σ H Q I h => ?_⟩
  obtain ⟨hs, h⟩ := h
  refine wpAny_Call_Name_kw (thn ((pe_var (pos := np) hN hv hdb hcd).run pins s σ H (fun v H1 => v = .ref C ∧ H1 = H) I ⟨.ref C, hs, rfl, rfl⟩) fun u s1 ⟨v, H1, I1, r1, q1⟩ => ?_)
  obtain ⟨rfl, rfl⟩ := q1
  cases r1
  refine PySem.W.callWith_K (h₀ := X.base) I.ok.mod.kin M.kp (thn (ha.run pos pins s1 σ _ _ I1 h) fun us s2 ⟨vs, H2, I2, r, q⟩ => ⟨I2.kIn, ?_⟩) he hpl
  exact run_make M F hr hb .nil hx I2 r q
end
end XR
namespace VL
open PySem PySem.Spec PyProof.Rows L2 XR
section
variable {K : PySem.W.Frag} {B : Bs} {E : L2.St → XK}
def tTry2 (K : PySem.W.Frag) (c1 : Value) (i1 : Nat) (ts1 : Addr → Value → Option Addr → TS) (c2 : Value) (i2 : Nat) (ts2 : Addr → Value → Option Addr → TS) (tb : WX → TS) : TS := fun D σ H => tb (TrN.wList K (fun _ _ _ _ => False) D [(c1, i1, ts1), (c2, i2, ts2)]) D σ H
theorem ps_try2 {X : Cx} {body : List Stmt} {h₀ : ExceptHandler} {hds : List ExceptHandler} {c1 c2 : Value} {i1 i2 : Nat} {ts1 ts2 : Addr → Value → Option Addr → TS} {pos : Pos} {tb : WX → TS} (hs : X.stack = X.env :: X.outer) (hf : X.env.frame = some X.env.locals) (hN : X.N.Nodup) (tk : Takes X (fun _ _ _ _ => False))
    (hb : ∀ (W : WX) (pn : List (Addr × Obj)) (xe : Value → Shared → Prop), Takes (X.tr pn xe) W → PassesOwn (model X.prog X.w) X.A X.env xe → PSs (X.tr pn xe) body (tb W)) (hk : TrN.Cls X (h₀ :: hds) [(c1, i1, ts1), (c2, i2, ts2)]) :
    PS X (.Try body (h₀ :: hds) [] [] pos) (tTry2 X.K c1 i1 ts1 c2 i2 ts2 tb) := TrN.ps_tryN hs hf hN tk hb hk
def vTry2 (K : PySem.W.Frag) (c1 : Value) (i1 : Nat) (w1 : VSW) (c2 : Value) (i2 : Nat) (w2 : VSW) (wb : VSW) : VSW := fun γ D => wb γ ⟨D.nx, D.rt, D.bk, D.ct, fun e γ1 => ∃ b, PySem.W.exmOne K (.ref e.1) c1 = some b ∧
  br b (w1 (γ1.noErr.set i1 (.err e.1 e.2)) (suiteE i1 D)) (PySem.W.exmOne K (.ref e.1) c2 = some true ∧ w2 (γ1.noErr.set i2 (.err e.1 e.2)) (suiteE i2 D))⟩
/-- a clause's suite runs -/
theorem suite_run {a : Addr} {D0 : Addr} {gs : List (Str × T)} {d : Option Addr} {i : Nat} {ts : TS} {ws : VSW} {D : Ends} {Dv : VEnds} {as1 : List Addr} {γ1 : Env} {σ1 : L2.St} {G1 H1 : Hp} (hs : VS K (B.hot a (.ref D0) d) E ts ws) (S1 : StR K B as1 γ1 σ1 G1 H1) (er : ErrF K G1 d gs) (q1 : ws (γ1.noErr.set i (.err D0 gs)) (suiteE i Dv))
    (knx : ∀ (γ2 : Env) (as2 : List Addr) (σ2 : L2.St) (G2 H2 : Hp), as1 <+: as2 → Same G1 G2 → StR K B as2 γ2 σ2 G2 H2 → Dv.nx γ2 → D.nx σ2 H2) (kbk : ∀ (γ2 : Env) (as2 : List Addr) (σ2 : L2.St) (G2 H2 : Hp), as1 <+: as2 → Same G1 G2 → StR K B as2 γ2 σ2 G2 H2 → Dv.bk γ2 → D.bk σ2 H2)
    (kct : ∀ (γ2 : Env) (as2 : List Addr) (σ2 : L2.St) (G2 H2 : Hp), as1 <+: as2 → Same G1 G2 → StR K B as2 γ2 σ2 G2 H2 → Dv.ct γ2 → D.ct σ2 H2)
    (krt : ∀ (σ2 : L2.St) (r : Rf) (γ2 : Env) (as2 : List Addr) (v : V) (G2 H2 : Hp), as1 <+: as2 → Same G1 G2 → StR K B as2 γ2 σ2 G2 H2 → RR K B.ex as2 G2 r v → Dv.rt r γ2 → D.rt v H2) :
    ts (TrN.endAs i D) (σ1.set i (some (.ref a))) H1 := by
  have S2 : StR K (B.hot a (.ref D0) d) as1 γ1.noErr σ1 G1 H1 := S1.reex rfl rfl rfl
  have S3 := S2.store (r := .err D0 gs) (v := .ref a) ⟨rfl, rfl, er⟩ i
  have back : ∀ {γ2 : Env} {as2 : List Addr} {σ2 : L2.St} {G2 H2 : Hp}, StR K (B.hot a (.ref D0) d) as2 γ2 σ2 G2 H2 → StR K B as2 (γ2.unset i).noErr (σ2.set i none) G2 H2 := fun {γ2 as2 σ2 G2 H2} S4 => by
    have S5 := (S4.unset i).slots (σ' := σ2.set i none) (by simp) fun j r e => by
      have e : (γ2.sl.set i none)[j]? = some (some r) := e
      by_cases hj : j = i
      · subst hj
        rcases Nat.lt_or_ge j γ2.sl.length with z | z
        · rw [List.getElem?_set_self z] at e; cases e
        · rw [List.getElem?_eq_none (by simpa using z)] at e; cases e
      · rw [List.getElem?_set_ne (Ne.symm hj)]
    exact S5.reex rfl rfl rfl
  refine hs.run (Dv := suiteE i Dv) S3 q1 ⟨fun γ2 as2 σ2 G2 H2 p2 g2 S4 q => knx _ _ _ _ _ p2 g2 (back S4) q, fun γ2 as2 σ2 G2 H2 p2 g2 S4 q => kbk _ _ _ _ _ p2 g2 (back S4) q, fun γ2 as2 σ2 G2 H2 p2 g2 S4 q => kct _ _ _ _ _ p2 g2 (back S4) q, fun σ2 r γ2 as2 v G2 H2 p2 g2 S4 rr q => ?_, fun σ2 => kxno⟩
  have S5 : StR K B as2 γ2.noErr σ2 G2 H2 := S4.reex rfl rfl rfl
  cases r with
  | err D gs => exact q.elim
  | val t => exact krt σ2 (.val t) γ2.noErr as2 v G2 H2 p2 g2 S5 rr q
  | ref n => exact krt σ2 (.ref n) γ2.noErr as2 v G2 H2 p2 g2 S5 rr q
instance {c1 c2 : Value} {i1 i2 : Nat} {ts1 ts2 : Addr → Value → Option Addr → TS} {tb : WX → TS} {wb w1 w2 : VSW} [hb : ∀ W : WX, VS K B (WE W) (tb W) wb] [h1 : ∀ (a : Addr) (cls : Value) (d : Option Addr), VS K (B.hot a cls d) E (ts1 a cls d) w1] [h2 : ∀ (a : Addr) (cls : Value) (d : Option Addr), VS K (B.hot a cls d) E (ts2 a cls d) w2] :
    VS K B E (tTry2 K c1 i1 ts1 c2 i2 ts2 tb) (vTry2 K c1 i1 w1 c2 i2 w2 wb) where
  run := fun {as γ σ G H D Dv} S h k => by
    refine (hb _).run S h ⟨k.nx, k.bk, k.ct, k.rt, fun σ1 e γ1 as1 d G1 H1 p1 g1 S1 er q1 => ?_⟩
    obtain ⟨b, em, q1⟩ := q1
    refine ⟨b, em, fun eb a ha => ?_, fun eb => ?_⟩
    · subst eb
      exact suite_run (h1 a (.ref e.1) d) S1 er q1 (fun γ2 as2 σ2 G2 H2 p2 g2 => k.nx γ2 as2 σ2 G2 H2 (p1.trans p2) (g1.trans g2)) (fun γ2 as2 σ2 G2 H2 p2 g2 => k.bk γ2 as2 σ2 G2 H2 (p1.trans p2) (g1.trans g2)) (fun γ2 as2 σ2 G2 H2 p2 g2 => k.ct γ2 as2 σ2 G2 H2 (p1.trans p2) (g1.trans g2)) (fun σ2 r γ2 as2 v G2 H2 p2 g2 => k.rt σ2 r γ2 as2 v G2 H2 (p1.trans p2) (g1.trans g2))
    · subst eb
      refine ⟨true, q1.1, fun _ a ha => ?_, fun z => by cases z⟩
      exact suite_run (h2 a (.ref e.1) d) S1 er q1.2 (fun γ2 as2 σ2 G2 H2 p2 g2 => k.nx γ2 as2 σ2 G2 H2 (p1.trans p2) (g1.trans g2)) (fun γ2 as2 σ2 G2 H2 p2 g2 => k.bk γ2 as2 σ2 G2 H2 (p1.trans p2) (g1.trans g2)) (fun γ2 as2 σ2 G2 H2 p2 g2 => k.ct γ2 as2 σ2 G2 H2 (p1.trans p2) (g1.trans g2)) (fun σ2 r γ2 as2 v G2 H2 p2 g2 => k.rt σ2 r γ2 as2 v G2 H2 (p1.trans p2) (g1.trans g2))
/-! ### C.m(..) of a classmethod, cls(..) -/
section
variable {sp : Sp} {wf : List Rf → Env → RQ → XQ → Prop} [hf : VF K sp wf] {C : Addr} {to : TE} {t : TA} {wo : VW} {wa : Env → (List Rf → Env → Prop) → XQ → Prop}
def vCMeth0 (C : Addr) (wf : List Rf → Env → RQ → XQ → Prop) (wo : VW) (wa : Env → (List Rf → Env → Prop) → XQ → Prop) : VW := fun γ Q X => wo γ (fun r γ1 => r = .val (.cls C) ∧ wa γ1 (fun rs γ2 => wf (.val (.cls C) :: rs) γ2 Q noX) X) X
def vCMeth (C : Addr) (wf : List Rf → Env → RQ → XQ → Prop) (wo : VW) (wa : Env → (List Rf → Env → Prop) → XQ → Prop) : VW := fun γ Q X => wo γ (fun r γ1 => r = .val (.cls C) ∧ wa γ1 (fun rs γ2 => wf (.val (.cls C) :: rs) γ2 Q X) X) X
instance [ho : VE K B E to wo] [ha : VA K B E t wa] : VE K B E (tCMethS C sp (fun _ => E0) to t) (vCMeth0 C wf wo wa) where
  run := fun {as γ σ G H Q Qv Xv} S h k kx => by
    refine ho.run S h (fun r γ1 as1 v G1 H1 p1 g1 S1 rr1 q1 => ?_) kx
    obtain ⟨rfl, q1⟩ := q1
    have rr1 : Rp K G1 v (.cls C) := rr1
    cases rr1
    refine ⟨rfl, ha.run S1 q1 (fun rs γ2 as2 vs G2 H2 p2 g2 S2 rr2 q2 => ?_) (kx.mono p1 g1)⟩
    exact hf.run S2 (.cons (show RR K B.ex as2 G2 (.val (.cls C)) (.ref C) from Rp.cls C) rr2) q2 ((k.mono p1 g1).mono p2 g2) kxno
instance [ho : VE K B E to wo] [ha : VA K B E t wa] : VE K B E (tCMethS C sp E to t) (vCMeth C wf wo wa) where
  run := fun {as γ σ G H Q Qv Xv} S h k kx => by
    refine ho.run S h (fun r γ1 as1 v G1 H1 p1 g1 S1 rr1 q1 => ?_) kx
    obtain ⟨rfl, q1⟩ := q1
    have rr1 : Rp K G1 v (.cls C) := rr1
    cases rr1
    refine ⟨rfl, ha.run S1 q1 (fun rs γ2 as2 vs G2 H2 p2 g2 S2 rr2 q2 => ?_) (kx.mono p1 g1)⟩
    exact hf.run S2 (.cons (show RR K B.ex as2 G2 (.val (.cls C)) (.ref C) from Rp.cls C) rr2) q2 ((k.mono p1 g1).mono p2 g2) ((kx.mono p1 g1).mono p2 g2)
def vMakeV (i : Nat) (C : Addr) (wf : List Rf → Env → RQ → XQ → Prop) (wa : Env → (List Rf → Env → Prop) → XQ → Prop) : VW := fun γ Q X => γ.sl[i]? = some (some (.val (.cls C))) ∧ vMake C wf wa γ Q X
instance {E1 : XK} {i : Nat} [ha : VA K B (fun _ => E1) t wa] : VE K B (fun _ => E1) (tMakeV i C sp E1 t) (vMakeV i C wf wa) where
  run := fun {as γ σ G H Q Qv Xv} S h k kx => by
    obtain ⟨e, h⟩ := h
    obtain ⟨v, e2, rp⟩ := S.sl i _ e
    have rp : Rp K G v (.cls C) := rp
    cases rp
    exact ⟨e2, VE.run (K := K) (B := B) (E := fun _ => E1) (t := tMake C sp [] E1 t) (w := vMake C wf wa) S h k kx⟩
end
end
end VL
set_option Elab.async false
set_option linter.all false
set_option maxRecDepth 100000
set_option maxHeartbeats 4000000
/-! sorted(x) of ints, of pairs of ints: over values -/
namespace VL
open PySem PySem.Spec PyProof.Rows L2 XR
/-- in order -/
def srtI (ns : List Int) : List Int := ns.mergeSort (fun a b => decide (a ≤ b))
theorem srtI_perm (ns : List Int) : (srtI ns).Perm ns := List.mergeSort_perm _ _
theorem srtI_ord (ns : List Int) : (srtI ns).Pairwise (· ≤ ·) := by
  have := List.pairwise_mergeSort (le := fun a b : Int => decide (a ≤ b)) (fun a b c h1 h2 => by simp only [decide_eq_true_eq] at *; omega) (fun a b => by simp only [Bool.or_eq_true, decide_eq_true_eq]; omega) ns
  exact this.imp fun h => of_decide_eq_true h
theorem ord_uniq {α : Type} {r : α → α → Prop} (anti : ∀ a b, r a b → r b a → a = b) : ∀ {l m : List α}, l.Perm m → l.Pairwise r → m.Pairwise r → l = m
  | [], [], _, _, _ => rfl
  | [], y :: m, p, _, _ => by have := p.length_eq; simp at this
  | x :: l, [], p, _, _ => by have := p.length_eq; simp at this
  | x :: l, y :: m, p, hl, hm => by
    obtain ⟨a1, a2⟩ := List.pairwise_cons.mp hl
    obtain ⟨b1, b2⟩ := List.pairwise_cons.mp hm
    have e : x = y := by
      have h1 : x ∈ y :: m := p.mem_iff.mp List.mem_cons_self
      have h2 : y ∈ x :: l := p.mem_iff.mpr List.mem_cons_self
      rcases List.mem_cons.mp h1 with h1 | h1
      · exact h1
      · rcases List.mem_cons.mp h2 with h2 | h2
        · exact h2.symm
        · exact anti _ _ (a1 y h2) (b1 x h1)
    subst e
    rw [ord_uniq anti p.cons_inv a2 b2]
theorem srtI_uniq {ms ns : List Int} (p : ms.Perm ns) (o : ms.Pairwise (· ≤ ·)) : ms = srtI ns := ord_uniq (fun a b h1 h2 => Int.le_antisymm h1 h2) (p.trans (srtI_perm ns).symm) o (srtI_ord ns)
/-- pairs: by the first, then by the second -/
def leP (p q : Int × Int) : Prop := p.1 < q.1 ∨ (p.1 = q.1 ∧ p.2 ≤ q.2)
instance (p q : Int × Int) : Decidable (leP p q) := inferInstanceAs (Decidable (_ ∨ _))
def srtP (ps : List (Int × Int)) : List (Int × Int) := ps.mergeSort (fun a b => decide (leP a b))
theorem srtP_perm (ps : List (Int × Int)) : (srtP ps).Perm ps := List.mergeSort_perm _ _
theorem srtP_ord (ps : List (Int × Int)) : (srtP ps).Pairwise leP := by
  have := List.pairwise_mergeSort (le := fun a b : Int × Int => decide (leP a b)) (fun a b c h1 h2 => by simp only [decide_eq_true_eq] at *; unfold leP at *; omega) (fun a b => by simp only [Bool.or_eq_true, decide_eq_true_eq]; unfold leP; omega) ps
  exact this.imp fun h => of_decide_eq_true h
theorem leP_anti (a b : Int × Int) (h1 : leP a b) (h2 : leP b a) : a = b := by
  unfold leP at *
  exact Prod.ext (by omega) (by omega)
theorem srtP_uniq {ms ps : List (Int × Int)} (p : ms.Perm ps) (o : ms.Pairwise leP) : ms = srtP ps := ord_uniq leP_anti (p.trans (srtP_perm ps).symm) o (srtP_ord ps)
/-- sorted(xs), a list of pairs of ints, told or constants -/
def rSortedPT (K : PySem.W.Frag) : List V → Hp → VK → Prop := fun vs H Q => ∃ (a : Addr) (zs : List (V × (Int × Int))), vs = [V.ref a] ∧ SqL K H a (zs.map Prod.fst) ∧ (∀ z ∈ zs, ∃ t, z.1 = V.ref t ∧ SqT K H t [.int z.2.1, .int z.2.2]) ∧
  ∀ (ys : List (V × (Int × Int))) q, ys.Perm zs → (ys.map Prod.snd).Pairwise leP → H q = none → Q (.ref q) (upd H q (.lst (ys.map Prod.fst)))
section
variable {X : Cx}
open Classical in
theorem cr_sortedPT : CallR X (.builtin "sorted") (rSortedPT X.K) := by
  intro pins s σ H vs us Q I r h
  obtain ⟨a, zs, rfl, hs, hx, q⟩ := h
  obtain ⟨its, rv, hl, hz⟩ := I.list hs
  obtain ⟨u, rfl, ru⟩ := vals1 r
  obtain rfl : u = Value.ref a := ru
  let k : V → Int × Int := fun x => match x with
    | .ref t => if h : ∃ p : Int × Int, SqT X.K H t [.int p.1, .int p.2] then choose h else (0, 0)
    | _ => (0, 0)
  have kz : ∀ z ∈ zs, k z.1 = z.2 := fun z hm => by
    obtain ⟨t, e, ht⟩ := hx z hm
    have h : ∃ p : Int × Int, SqT X.K H t [.int p.1, .int p.2] := ⟨z.2, ht⟩
    have e1 : k z.1 = choose h := by rw [e]; exact dif_pos h
    have e2 := I.tuple_inj (choose_spec h) ht
    injection e2 with e3 e4
    injection e4 with e4 _
    injection e3 with e3
    injection e4 with e4
    rw [e1]
    exact Prod.ext e3 e4
  obtain ⟨e1, e2⟩ := refs_back rv fun x m => by
    obtain ⟨z, hz, rfl⟩ := List.mem_map.mp m
    obtain ⟨t, e, _⟩ := hx z hz
    exact ⟨t, e⟩
  refine SrtO.sorted_pairsO (k := fun u => k (backV u)) hl.isList (by rw [← rv.length]; exact hz) (fun v hv => ?_) fun h' d out h1 h2 kp hd hn => ?_
  · obtain ⟨t, rfl⟩ := e2 v hv
    have hm : V.ref t ∈ zs.map Prod.fst := by rw [e1]; exact List.mem_map.mpr ⟨_, hv, rfl⟩
    obtain ⟨z, hz, ez⟩ := List.mem_map.mp hm
    obtain ⟨t', e, ht⟩ := hx z hz
    have et : t' = t := by rw [e] at ez; injection ez
    subst et
    obtain ⟨its2, r2, ⟨o, ho, hc, n, hd⟩, _⟩ := I.tuple ht
    obtain ⟨u1, u2, rfl, ri, rj⟩ := vals2 r2
    obtain ⟨t1, rfl⟩ := ri
    obtain ⟨t2, rfl⟩ := rj
    have ek : k (backV (.ref t')) = z.2 := by rw [← kz z hz, e]; rfl
    rw [ek]
    exact ⟨t', o, t1, t2, n, rfl, ho, hc, hd⟩
  · have h3 : ∀ u ∈ out, ∃ a, u = Value.ref a := fun u hu => e2 u (h2.perm.mem_iff.mp hu)
    obtain ⟨n, hn⟩ := hn
    have hb : SrtO.Stb (ltP k) (out.map backV) (zs.map Prod.fst) := by
      rw [e1]
      exact SrtO.Stb.map (ltP_swo k) backV h2
    have hperm := hb.perm
    have ez : (zs.map Prod.fst).map (fun x => (x, k x)) = zs := by
      rw [List.map_map]
      conv => rhs; rw [← List.map_id zs]
      exact List.map_congr_left fun z hz => Prod.ext rfl (kz z hz)
    have ey : ((out.map backV).map fun x => (x, k x)).map Prod.fst = out.map backV := by
      rw [List.map_map]
      exact List.map_id _
    have q := q ((out.map backV).map fun x => (x, k x)) d (by rw [← ez]; exact hperm.map _) (by
      rw [List.map_map, List.map_map]
      refine List.pairwise_map.mpr (List.Pairwise.imp (fun {x y} hxy => ?_) h1)
      have := SrtO.lexB_no.mp hxy
      show leP (k (backV x)) (k (backV y))
      unfold leP
      omega) (I.hok.fresh hd)
    rw [ey] at q
    refine ⟨.ref d, upd H d (.lst (out.map backV)), I.laid (t' := s.toks) kp hd ⟨?_, out, n, vals_back h3, hn⟩, rfl, q⟩
    rw [hb.len]
    exact hz
variable {K : PySem.W.Frag}
theorem call_sortedI (e : X.K = K) : CallR X (.builtin "sorted") (rSortedI K) := e ▸ cr_sortedI
theorem call_sortedP (e : X.K = K) : CallR X (.builtin "sorted") (rSortedPT K) := e ▸ cr_sortedPT
end
section
variable {K : PySem.W.Frag} {B : Bs} {E : L2.St → XK}
def tIP (p : Int × Int) : T := .tup [.int p.1, .int p.2]
def vSortedI : List Rf → VW := look1 fun t Q γ => match t with
  | .lst ts => ∃ ns : List Int, ts = ns.map T.int ∧ γ.new (.lst ((srtI ns).map T.int)) Q
  | _ => False
def vSortedP : List Rf → VW := look1 fun t Q γ => match t with
  | .lst ts => ∃ ps : List (Int × Int), ts = ps.map tIP ∧ γ.new (.lst ((srtP ps).map tIP)) Q
  | _ => False
theorem ints_rp {G : Hp} : ∀ ns : List Int, RpAll K G (ns.map V.int) (ns.map T.int)
  | [] => .nil
  | n :: ns => .cons (.int n) (ints_rp ns)
instance : VC K B E (rSortedI K) vSortedI where
  run := fun {as γ σ G H vs rs Q Qv Xv} S r1 h k _ => by
    obtain ⟨v, t, rfl, z, h⟩ := look1_ok S r1 h
    split at h
    · obtain ⟨ns, rfl, h⟩ := h
      obtain ⟨a, acc, rfl, e, rp⟩ := lst_any S z
      refine ⟨a, ns, rfl, by rw [← ints_inv rp]; exact SqL.of e, fun ms p hp ho hn => ?_⟩
      rw [srtI_uniq hp ho]
      exact knew k S (ints_rp _) h hn
    · exact h.elim
theorem pairs_inv {G : Hp} : ∀ {vs : List V} {ps : List (Int × Int)}, RpAll K G vs (ps.map tIP) → ∃ zs : List (V × (Int × Int)), vs = zs.map Prod.fst ∧ ps = zs.map Prod.snd ∧ ∀ z ∈ zs, Rp K G z.1 (tIP z.2)
  | _, [], .nil => ⟨[], rfl, rfl, fun z hz => by cases hz⟩
  | _, p :: ps, .cons a r => by
    obtain ⟨zs, rfl, rfl, h⟩ := pairs_inv r
    refine ⟨(_, p) :: zs, rfl, rfl, fun z hz => ?_⟩
    rcases List.mem_cons.mp hz with rfl | hz
    · exact a
    · exact h z hz
theorem pairs_all {G : Hp} : ∀ {zs : List (V × (Int × Int))}, (∀ z ∈ zs, Rp K G z.1 (tIP z.2)) → RpAll K G (zs.map Prod.fst) ((zs.map Prod.snd).map tIP)
  | [], _ => .nil
  | z :: zs, h => .cons (h z List.mem_cons_self) (pairs_all fun y hy => h y (List.mem_cons_of_mem _ hy))
instance : VC K B E (rSortedPT K) vSortedP where
  run := fun {as γ σ G H vs rs Q Qv Xv} S r1 h k _ => by
    obtain ⟨v, t, rfl, z, h⟩ := look1_ok S r1 h
    split at h
    · obtain ⟨ps, rfl, h⟩ := h
      obtain ⟨a, acc, rfl, e, rp⟩ := lst_any S z
      obtain ⟨zs, rfl, rfl, hz⟩ := pairs_inv rp
      refine ⟨a, zs, rfl, SqL.of e, fun z hm => ?_, fun ys p hp ho hn => ?_⟩
      · have r := hz z hm
        obtain ⟨v, p⟩ := z
        have r : Rp K G v (.tup [.int p.1, .int p.2]) := r
        cases r with | tup s1 s2 =>
        cases s2 with | cons a1 s2 =>
        cases s2 with | cons a2 s2 =>
        cases s2
        cases a1
        cases a2
        exact ⟨_, rfl, SqT.same s1.t S.vw⟩
      · have e2 : ys.map Prod.snd = srtP (zs.map Prod.snd) := srtP_uniq (hp.map _) ho
        rw [← e2] at h
        exact knew k S (pairs_all fun y hy => hz y (hp.mem_iff.mp hy)) h hn
    · exact h.elim
end
end VL
set_option Elab.async false
set_option linter.all false
set_option maxRecDepth 100000
set_option maxHeartbeats 4000000
/-! dicts: {}, d[y], y in d, d[y] = v; keys: ints, texts, or tuples that begin with an int -/
namespace VL
open PySem PySem.Spec PyProof.Rows L2 XR
/-! ### no tuple of the module begins with an int -/
def noIntTup (o : Obj) : Bool := match o.cls with
  | .type n => if n = "tuple" then (match o.data with
    | .seq its _ => (match its.toList with
      | .int _ _ :: _ => false
      | _ => true)
    | _ => true) else true
  | _ => true
def NoInt (K : PySem.W.Frag) : Prop := (K.all fun p => noIntTup p.2) = true
theorem lookup_mem : ∀ {K : PySem.W.Frag} {a : Addr} {o : Obj}, K.lookup a = some o → ∃ b, (b, o) ∈ K
  | [], a, o, h => by cases h
  | (b, x) :: K, a, o, h => by
    rw [List.lookup_cons] at h
    split at h
    · cases h; exact ⟨b, List.mem_cons_self⟩
    · obtain ⟨c, hc⟩ := lookup_mem h
      exact ⟨c, List.mem_cons_of_mem _ hc⟩
theorem SqX.exact {K : PySem.W.Frag} {G : Hp} {a : Addr} {i : Int} {xs : List V} (n : NoInt K) (h : SqX K G a (.int i :: xs)) : G a = some (.tup (.int i :: xs)) := by
  rcases h with h | ⟨o, its, m, e, c, d, _, r⟩
  · exact h
  · obtain ⟨b, hb⟩ := lookup_mem e
    have q : noIntTup o = true := List.all_eq_true.mp n _ hb
    exfalso
    unfold noIntTup at q
    rw [c] at q
    simp only [if_true] at q
    rw [d] at q
    dsimp only at q
    generalize its.toList = l at q r
    cases r with
    | cons r1 _ =>
      obtain ⟨t, rfl⟩ := (show ∃ t, _ = Value.int i t from r1)
      cases q
/-! ### keys -/
def keyT : T → Option Key
  | .int i => some (.inl i)
  | .str x => some (.inr x)
  | _ => none
def keysT : List T → Option (List Key)
  | [] => some []
  | t :: ts => match keyT t, keysT ts with
    | some k, some ks => some (k :: ks)
    | _, _ => none
/-- a tuple that begins with an int -/
def keyI : T → Option (List Key)
  | .tup (.int i :: ts) => keysT (.int i :: ts)
  | _ => none
def valA {κ α : Type} [DecidableEq κ] (kvs : List (κ × α)) (k : κ) : Option α := (kvs.find? fun kv => decide (kv.1 = k)).map (·.2)
def putA {κ α : Type} [DecidableEq κ] (kvs : List (κ × α)) (k : κ) (v : α) : List (κ × α) :=
  if (kvs.any fun kv => decide (kv.1 = k)) = true then kvs.map (fun kv => if kv.1 = k then (kv.1, v) else kv) else kvs ++ [(k, v)]
section
variable {K : PySem.W.Frag} {G H : Hp} {v : V} {t : T}
theorem keyT_ok {k : Key} (r : Rp K G v t) (e : keyT t = some k) : v = kV k := by
  cases r with
  | int i => cases e; rfl
  | str s _ => cases e; rfl
  | _ => cases e
theorem keysT_ok : ∀ {vs : List V} {ts : List T} {ks : List Key}, RpAll K G vs ts → keysT ts = some ks → vs = ks.map kV
  | _, _, _, .nil, e => by cases e; rfl
  | _, _, _, .cons a b, e => by
    unfold keysT at e
    split at e
    · rename_i k ks e1 e2
      cases e
      rw [keyT_ok a e1, keysT_ok b e2]
      rfl
    · cases e
theorem keyI_ok {ks : List Key} (n : NoInt K) (r : Rp K G v t) (e : keyI t = some ks) : ∃ b, v = .ref b ∧ G b = some (.tup (ks.map kV)) := by
  unfold keyI at e
  split at e
  · cases r with | tup s a =>
    have h := keysT_ok a e
    cases a with | cons a1 a2 =>
    cases a1
    rw [← h]
    exact ⟨_, rfl, s.exact n⟩
  · cases e
section
variable {κ : Type} [DecidableEq κ]
theorem RpF.val : ∀ {kvs : List (κ × V)} {ks : List (κ × T)} (_ : RpF K G kvs ks) (k : κ), (valV kvs k = none ∧ valA ks k = none) ∨ ∃ v t, valV kvs k = some v ∧ valA ks k = some t ∧ Rp K G v t
  | [], [], _, k => .inl ⟨rfl, rfl⟩
  | [], _ :: _, h, k => by have := h.1; cases this
  | _ :: _, [], h, k => by have := h.1; cases this
  | (a, v) :: kvs, (b, t) :: ks, h, k => by
    have h1 := List.cons.inj h.1
    have e : a = b := h1.1
    subst e
    have h2 := h.2
    cases h2 with | cons r rs =>
    by_cases q : a = k
    · refine .inr ⟨v, t, valV_pos (p := (a, v)) q, ?_, r⟩
      simp [valA, List.find?_cons, q]
    · have e1 : valV ((a, v) :: kvs) k = valV kvs k := valV_neg (p := (a, v)) q
      have e2 : valA ((a, t) :: ks) k = valA ks k := by simp [valA, List.find?_cons, q]
      rw [e1, e2]
      exact RpF.val ⟨h1.2, rs⟩ k
theorem RpF.any : ∀ {kvs : List (κ × V)} {ks : List (κ × T)} (_ : RpF K G kvs ks) (k : κ), (kvs.any fun kv => decide (kv.1 = k)) = (ks.any fun kv => decide (kv.1 = k))
  | [], [], _, k => rfl
  | [], _ :: _, h, k => by have := h.1; cases this
  | _ :: _, [], h, k => by have := h.1; cases this
  | (a, v) :: kvs, (b, t) :: ks, h, k => by
    have h1 := List.cons.inj h.1
    have e : a = b := h1.1
    subst e
    have h2 := h.2
    cases h2 with | cons r rs =>
    rw [List.any_cons, List.any_cons, RpF.any ⟨h1.2, rs⟩ k]
theorem RpF.repl {k : κ} (r : Rp K G v t) : ∀ {kvs : List (κ × V)} {ks : List (κ × T)} (_ : RpF K G kvs ks), RpF K G (kvs.map fun kv => if kv.1 = k then (kv.1, v) else kv) (ks.map fun kv => if kv.1 = k then (kv.1, t) else kv)
  | [], [], _ => ⟨rfl, .nil⟩
  | [], _ :: _, h => by have := h.1; cases this
  | _ :: _, [], h => by have := h.1; cases this
  | (a, x) :: kvs, (b, y) :: ks, h => by
    have h1 := List.cons.inj h.1
    have e : a = b := h1.1
    subst e
    have h2 := h.2
    cases h2 with | cons q qs =>
    obtain ⟨z1, z2⟩ := RpF.repl r (kvs := kvs) (ks := ks) ⟨h1.2, qs⟩
    rw [List.map_cons, List.map_cons]
    by_cases e : a = k
    · rw [if_pos e, if_pos e]
      exact ⟨by rw [List.map_cons, List.map_cons, z1], .cons r z2⟩
    · rw [if_neg e, if_neg e]
      exact ⟨by rw [List.map_cons, List.map_cons, z1], .cons q z2⟩
theorem RpF.put {kvs : List (κ × V)} {ks : List (κ × T)} (h : RpF K G kvs ks) (k : κ) (r : Rp K G v t) : RpF K G (putK kvs k v) (putA ks k t) := by
  unfold putK putA
  rw [h.any k]
  split
  · exact h.repl r
  · refine ⟨by rw [List.map_append, List.map_append, h.1]; rfl, ?_⟩
    rw [List.map_append, List.map_append]
    exact h.2.snoc r
theorem RpF.len {kvs : List (κ × V)} {ks : List (κ × T)} (h : RpF K G kvs ks) : kvs.length = ks.length := by
  have := congrArg List.length h.1
  simpa using this
end
end
theorem valA_some {κ α : Type} [DecidableEq κ] (k : κ) : ∀ ks : List (κ × α), (valA ks k).isSome = ks.any fun kv => decide (kv.1 = k)
  | [] => rfl
  | p :: r => by
    rw [List.any_cons, ← valA_some k r]
    by_cases e : p.1 = k
    · simp [valA, List.find?_cons, e]
    · simp [valA, List.find?_cons, e]
theorem putA_any {κ α : Type} [DecidableEq κ] (ks : List (κ × α)) (k j : κ) (v : α) : ((putA ks k v).any fun kv => decide (kv.1 = j)) = (decide (k = j) || ks.any fun kv => decide (kv.1 = j)) := by
  unfold putA
  by_cases h : (ks.any fun kv => decide (kv.1 = k)) = true
  · rw [if_pos h, List.any_map]
    have e : (fun kv : κ × α => decide (kv.1 = j)) ∘ (fun kv => if kv.1 = k then (kv.1, v) else kv) = fun kv => decide (kv.1 = j) := by
      funext kv
      show decide ((if kv.1 = k then (kv.1, v) else kv).1 = j) = _
      split <;> rfl
    rw [e]
    by_cases q : k = j
    · subst q
      rw [h, Bool.or_true]
    · rw [decide_eq_false q, Bool.false_or]
  · rw [if_neg h, List.any_append, Bool.or_comm]
    congr 1
    simp
theorem putA_len {κ α : Type} [DecidableEq κ] (ks : List (κ × α)) (k : κ) (v : α) : (putA ks k v).length ≤ ks.length + 1 := by
  unfold putA
  split
  · rw [List.length_map]; omega
  · rw [List.length_append]; exact Nat.le_refl _
/-- a table of keys seen -/
def seenA {κ α β : Type} [DecidableEq κ] (f : β → κ) (v : α) (xs : List β) : List (κ × α) := xs.foldl (fun ks x => putA ks (f x) v) []
theorem seenA_snoc {κ α β : Type} [DecidableEq κ] (f : β → κ) (v : α) (xs : List β) (x : β) : seenA f v (xs ++ [x]) = putA (seenA f v xs) (f x) v := by unfold seenA; rw [List.foldl_append]; rfl
theorem seenA_len {κ α β : Type} [DecidableEq κ] (f : β → κ) (v : α) (xs : List β) : (seenA f v xs).length ≤ xs.length := by
  suffices h : ∀ (xs : List β) (ks : List (κ × α)), (xs.foldl (fun ks x => putA ks (f x) v) ks).length ≤ ks.length + xs.length by have := h xs []; simpa [seenA] using this
  intro xs
  induction xs with
  | nil => intro ks; exact Nat.le_refl _
  | cons x xs ih =>
    intro ks
    have h1 := ih (putA ks (f x) v)
    have h2 := putA_len ks (f x) v
    rw [List.foldl_cons, List.length_cons]
    omega
theorem seenA_some {κ α β : Type} [DecidableEq κ] [DecidableEq β] (f : β → κ) (inj : ∀ a b, f a = f b → a = b) (v : α) (xs : List β) (x : β) : (valA (seenA f v xs) (f x)).isSome = decide (x ∈ xs) := by
  rw [valA_some]
  suffices h : ∀ (xs : List β) (ks : List (κ × α)), ((xs.foldl (fun ks x => putA ks (f x) v) ks).any fun kv => decide (kv.1 = f x)) = (decide (x ∈ xs) || ks.any fun kv => decide (kv.1 = f x)) by
    have := h xs []
    rw [List.any_nil, Bool.or_false] at this
    exact this
  intro xs
  induction xs with
  | nil => intro ks; simp
  | cons y xs ih =>
    intro ks
    rw [List.foldl_cons, ih, putA_any, Bool.eq_iff_iff]
    simp only [Bool.or_eq_true, decide_eq_true_eq, List.mem_cons]
    constructor
    · rintro (h | h | h)
      · exact .inl (.inr h)
      · exact .inl (.inl (inj _ _ h).symm)
      · exact .inr h
    · rintro ((h | h) | h)
      · exact .inr (.inl (by rw [h]))
      · exact .inl h
      · exact .inr (.inr h)
/-- what the dict holds there -/
def dGetQ (K : PySem.W.Frag) (d y : T) (Q : Option T → Prop) : Prop := match d with
  | .dk ks => isS (keyT y) fun k => Q (valA ks k)
  | .dt ks => NoInt K ∧ isS (keyI y) fun k => Q (valA ks k)
  | _ => False
theorem isS_ok {α : Type} {o : Option α} {Q : α → Prop} (h : isS o Q) : ∃ x, o = some x ∧ Q x := by
  cases o with
  | none => exact h.elim
  | some x => exact ⟨x, rfl, h⟩
theorem dGetQ_ok {K : PySem.W.Frag} {B : Bs} {as : List Addr} {γ : Env} {σ : L2.St} {G H : Hp} {x v : V} {d y : T} {Q : Option T → Prop} (S : StR K B as γ σ G H) (r : Rp K G x d ∨ ∃ a, x = .ref a ∧ MutR K G H a d) (ry : Rp K H v y) (h : dGetQ K d y Q) :
    ∃ a o o', x = .ref a ∧ DGet H a v o ∧ Q o' ∧ ((o = none ∧ o' = none) ∨ ∃ v t, o = some v ∧ o' = some t ∧ Rp K G v t) := by
  unfold dGetQ at h
  split at h
  · obtain ⟨k, e, h⟩ := isS_ok h
    rw [keyT_ok ry e]
    rcases r with r | ⟨a, rfl, kvs, g, f⟩
    · cases r with | dk g e1 e2 => exact ⟨_, _, _, rfl, DGet.k (S.vw _ _ g), h, RpF.val ⟨e1, e2⟩ k⟩
    · exact ⟨_, _, _, rfl, DGet.k g, h, f.val k⟩
  · obtain ⟨n, h⟩ := h
    obtain ⟨k, e, h⟩ := isS_ok h
    obtain ⟨b, rfl, hb⟩ := keyI_ok n ry e
    rcases r with r | ⟨a, rfl, kvs, g, f⟩
    · cases r with | dt g e1 e2 => exact ⟨_, _, _, rfl, DGet.t (S.vw _ _ g) hb, h, RpF.val ⟨e1, e2⟩ k⟩
    · exact ⟨_, _, _, rfl, DGet.t g hb, h, f.val k⟩
  · exact h.elim
def setD (K : PySem.W.Frag) (r : Rf) (y t : T) (γ : Env) (Q : Env → Prop) : Prop := match r with
  | .ref k => match nth γ.mem k with
    | some (.mu (.dk ks)) => isS (keyT y) fun kk => ks.length < 100000 ∧ Q (γ.put k (.mu (.dk (putA ks kk t))))
    | some (.mu (.dt ks)) => NoInt K ∧ isS (keyI y) fun kk => ks.length < 100000 ∧ Q (γ.put k (.mu (.dt (putA ks kk t))))
    | _ => False
  | _ => False
section
variable {K : PySem.W.Frag} {B : Bs} {E : L2.St → XK}
def tDGetK (K : PySem.W.Frag) (td ty : TE) : TE := tDGet td ty
def tDInK (K : PySem.W.Frag) (ty td : TE) : TE := tDIn ty td
def tDNotInK (K : PySem.W.Frag) (ty td : TE) : TE := tDNotIn ty td
def sDPutK (K : PySem.W.Frag) (td ty tv : TE) : TS := sDPut td ty tv
def vDGet (K : PySem.W.Frag) (wd wy : VW) : VW := fun γ Q X => wd γ (fun rd γ1 => wy γ1 (fun ry γ2 => peek rd γ2 fun d => peek ry γ2 fun y => dGetQ K d y fun o => isS o fun t => Q (.val t) γ2) X) X
def vDIn (neg : Bool) (K : PySem.W.Frag) (wy wd : VW) : VW := fun γ Q X => wy γ (fun ry γ1 => wd γ1 (fun rd γ2 => peek rd γ2 fun d => peek ry γ2 fun y => dGetQ K d y fun o => Q (.val (.bl (nb neg o.isSome))) γ2) X) X
def vDPut (K : PySem.W.Frag) (wd wy wv : VW) : VSW := fun γ D => wv γ (fun rv γ1 => wd γ1 (fun rd γ2 => wy γ2 (fun ry γ3 => toT rv γ3 fun t γ4 => peek ry γ4 fun y => setD K rd y t γ4 D.nx) D.ex) D.ex) D.ex
instance {td ty : TE} {wd wy : VW} [hd : VE K B E td wd] [hy : VE K B E ty wy] : VE K B E (tDGetK K td ty) (vDGet K wd wy) where
  run := fun {as γ σ G H Q Qv Xv} S h k kx => by
    refine hd.run S h (fun r1 γ1 as1 v1 G1 H1 p1 g1 S1 rr1 q1 => ?_) kx
    refine hy.run S1 q1 (fun r2 γ2 as2 v2 G2 H2 p2 g2 S2 rr2 q2 => ?_) (kx.mono p1 g1)
    obtain ⟨d, q2, z1⟩ := peek_ok S2 (RR.mono rr1 p2 g2) q2
    obtain ⟨y, q2, z2⟩ := peek_rp S2 rr2 q2
    obtain ⟨a, o, o', rfl, dg, q3, ov⟩ := dGetQ_ok S2 z1 z2 q2
    rcases ov with ⟨_, rfl⟩ | ⟨v, t, rfl, rfl, rv⟩
    · exact q3.elim
    · exact ⟨a, v, rfl, dg, kval ((k.mono p1 g1).mono p2 g2) S2 rv q3⟩
instance {td ty : TE} {wd wy : VW} [hd : VE K B E td wd] [hy : VE K B E ty wy] : VE K B E (tDInK K ty td) (vDIn false K wy wd) where
  run := fun {as γ σ G H Q Qv Xv} S h k kx => by
    refine hy.run S h (fun r1 γ1 as1 v1 G1 H1 p1 g1 S1 rr1 q1 => ?_) kx
    refine hd.run S1 q1 (fun r2 γ2 as2 v2 G2 H2 p2 g2 S2 rr2 q2 => ?_) (kx.mono p1 g1)
    obtain ⟨d, q2, z1⟩ := peek_ok S2 rr2 q2
    obtain ⟨y, q2, z2⟩ := peek_rp S2 (RR.mono rr1 p2 g2) q2
    obtain ⟨a, o, o', rfl, dg, q3, ov⟩ := dGetQ_ok S2 z1 z2 q2
    refine ⟨a, o, rfl, dg, kval ((k.mono p1 g1).mono p2 g2) S2 (.bl _) ?_⟩
    rcases ov with ⟨rfl, rfl⟩ | ⟨v, t, rfl, rfl, _⟩ <;> exact q3
instance {td ty : TE} {wd wy : VW} [hd : VE K B E td wd] [hy : VE K B E ty wy] : VE K B E (tDNotInK K ty td) (vDIn true K wy wd) where
  run := fun {as γ σ G H Q Qv Xv} S h k kx => by
    refine hy.run S h (fun r1 γ1 as1 v1 G1 H1 p1 g1 S1 rr1 q1 => ?_) kx
    refine hd.run S1 q1 (fun r2 γ2 as2 v2 G2 H2 p2 g2 S2 rr2 q2 => ?_) (kx.mono p1 g1)
    obtain ⟨d, q2, z1⟩ := peek_ok S2 rr2 q2
    obtain ⟨y, q2, z2⟩ := peek_rp S2 (RR.mono rr1 p2 g2) q2
    obtain ⟨a, o, o', rfl, dg, q3, ov⟩ := dGetQ_ok S2 z1 z2 q2
    refine ⟨a, o, rfl, dg, kval ((k.mono p1 g1).mono p2 g2) S2 (.bl _) ?_⟩
    rcases ov with ⟨rfl, rfl⟩ | ⟨v, t, rfl, rfl, _⟩ <;> exact q3
instance {td ty tv : TE} {wd wy wv : VW} [hd : VE K B E td wd] [hy : VE K B E ty wy] [hv : VE K B E tv wv] : VS K B E (sDPutK K td ty tv) (vDPut K wd wy wv) where
  run := fun {as γ σ G H D Dv} S h k => by
    refine hv.run S h (fun r1 γ1 as1 v1 G1 H1 p1 g1 S1 rr1 q1 => ?_) (k.ex σ)
    refine hd.run S1 q1 (fun r2 γ2 as2 v2 G2 H2 p2 g2 S2 rr2 q2 => ?_) ((k.ex σ).mono p1 g1)
    refine hy.run S2 q2 (fun r3 γ3 as3 v3 G3 H3 p3 g3 S3 rr3 q3 => ?_) (((k.ex σ).mono p1 g1).mono p2 g2)
    obtain ⟨t, γ4, G4, g4, S4, rp, q4⟩ := toT_ok S3 (RR.mono (RR.mono rr1 p2 g2) p3 g3) q3
    obtain ⟨y, q4, z2⟩ := peek_rp S4 (RR.mono rr3 (List.prefix_refl _) g4) q4
    have gg := ((g1.trans g2).trans g3).trans g4
    have pp := (p1.trans p2).trans p3
    unfold setD at q4
    cases r2 with
    | val _ => exact q4.elim
    | err _ _ => exact q4.elim
    | ref kk =>
      obtain ⟨a, ea, rfl⟩ := rr2
      obtain ⟨r, hr⟩ := p3
      have ea : as3[kk]? = some a := by rw [← hr, List.getElem?_append_left (List.getElem?_eq_some_iff.mp ea).1]; exact ea
      simp only [nth_eq] at q4
      split at q4
      · rename_i ks e
        obtain ⟨key, ek, q4⟩ := isS_ok q4
        obtain ⟨_, kvs, ha, rf⟩ := S4.mem _ a _ ea e
        rw [keyT_ok z2 ek]
        refine ⟨a, _, rfl, DPut.k ha (by rw [rf.len]; rw [sizeLine_eq]; omega), ?_⟩
        have S5 := S4.write (o := .dK (putK kvs key v1)) (t := .dk (putA ks key t)) e ea ⟨_, upd_same, rf.put key rp⟩
        exact k.nx _ _ _ _ _ pp gg S5 q4.2
      · rename_i ks e
        obtain ⟨n, q4⟩ := q4
        obtain ⟨key, ek, q4⟩ := isS_ok q4
        obtain ⟨_, kvs, ha, rf⟩ := S4.mem _ a _ ea e
        obtain ⟨b, rfl, hb⟩ := keyI_ok n z2 ek
        refine ⟨a, _, rfl, DPut.t ha hb (by rw [rf.len]; rw [sizeLine_eq]; omega), ?_⟩
        have S5 := S4.write (o := .dT (putK kvs key v1)) (t := .dt (putA ks key t)) e ea ⟨_, upd_same, rf.put key rp⟩
        exact k.nx _ _ _ _ _ pp gg S5 q4.2
      · exact q4.elim
/-! ### {} -/
def vDNew (t : T) : VW := fun γ Q _ => γ.new t Q
instance : VE K B E tDNewK (vDNew (.dk [])) where
  run := fun {as γ σ G H Q Qv Xv} S h k _ => fun p hp => by
    have S' := S.alloc (t := .dk []) (o := .dK []) hp ⟨[], upd_same, rfl, .nil⟩
    refine k (.ref γ.mem.length) _ _ _ G _ (List.prefix_append _ _) (Same.refl _) S' ⟨p, ?_, rfl⟩ h
    rw [← S.mlen, List.getElem?_append_right (Nat.le_refl _), Nat.sub_self]
    rfl
instance : VE K B E tDNewT (vDNew (.dt [])) where
  run := fun {as γ σ G H Q Qv Xv} S h k _ => fun p hp => by
    have S' := S.alloc (t := .dt []) (o := .dT []) hp ⟨[], upd_same, rfl, .nil⟩
    refine k (.ref γ.mem.length) _ _ _ G _ (List.prefix_append _ _) (Same.refl _) S' ⟨p, ?_, rfl⟩ h
    rw [← S.mlen, List.getElem?_append_right (Nat.le_refl _), Nat.sub_self]
    rfl
/-! ### the rules, the module named -/
section
variable {X : Cx} {o i value : Expr} {pos pos' : Pos} {td ty tv : TE}
theorem pe_dgetK (ek : X.K = K) (hu : X.A.units + 65 < cLine) (ho : PE X o td) (hi : PE X i ty) (hs : NoSl i) : PE X (.Subscript o i pos) (tDGetK K td ty) := pe_dget (by omega) ho hi hs
theorem pe_dinK (ek : X.K = K) (hu : X.A.units + 65 < cLine) (hi : PE X i ty) (ho : PE X o td) : PC X .In i o (tDInK K ty td) := pc_din (by omega) hi ho
theorem pe_dnotinK (ek : X.K = K) (hu : X.A.units + 65 < cLine) (hi : PE X i ty) (ho : PE X o td) : PC X .NotIn i o (tDNotInK K ty td) := pc_dnotin (by omega) hi ho
theorem ps_dputK (ek : X.K = K) (hu : X.A.units + 65 < cLine) (ho : PE X o td) (hi : PE X i ty) (hv : PE X value tv) (hs : swapsWith value (some (.Subscript o i pos')) pos.line X.env = pure false) : PS X (.Assign [.Subscript o i pos'] value pos) (sDPutK K td ty tv) := ps_dput (by omega) ho hi hv hs
end
end
end VL
set_option Elab.async false
set_option linter.all false
set_option maxRecDepth 100000
set_option maxHeartbeats 4000000
/-! comprehensions over an open list, with draws -/
namespace VL
open PySem PySem.Spec PyProof.Rows L2 XR
section
variable {β : Type} {γ1 : Env} {vs : List Nat} {step : T → Env → (Env → Prop) → Prop} {Q : RQ} {α : Type} {xs : List α} {f : α → T} {k : Nat}
theorem lc_mapLF (F : Env → β → Env) (P : Nat → β → Prop) (hon : ∀ s, nth (F γ1 s).mem k = some (.mu (.lst (xs.map f)))) (h0 : NLs (γ1.mem.length + 1) vs (F γ1) (P 0) (γ1.push (.mu (.lst []))))
    (hs : ∀ i x s, xs[i]? = some x → P i s → step (f x) ((F γ1 s).wipe vs) (NLs (γ1.mem.length + 1) vs (F γ1) (P (i + 1)))) (hd : ∀ s, P xs.length s → Q (.ref γ1.mem.length) (F γ1 s)) : LcI (.live k (xs.map f)) γ1 vs step Q := by
  unfold NLs at h0 hs
  refine ⟨fun i γ => ∃ s, γ = F γ1 s ∧ P i s, h0, fun i γ2 h => ?_, fun i t γ2 e h => ?_, fun γ2 h => ?_⟩
  · obtain ⟨s, rfl, _⟩ := h
    exact hon s
  · obtain ⟨s, rfl, p⟩ := h
    have e : (xs.map f)[i]? = some t := e
    rw [List.getElem?_map] at e
    cases ex : xs[i]? with
    | none => rw [ex] at e; cases e
    | some x =>
      rw [ex] at e
      cases e
      exact hs i x s ex p
  · obtain ⟨s, rfl, p⟩ := h
    exact hd s (by have e : ((xs.map f).length) = xs.length := List.length_map _; rw [← e]; exact p)
end
end VL
set_option Elab.async false
set_option linter.all false
set_option maxRecDepth 100000
set_option maxHeartbeats 4000000
/-! f(k = v, ..) of a def, all by keywords -/
namespace VL
open PySem PySem.Spec PyProof.Rows L2 XR
/-- chosen by places -/
def pick {α : Type} (ix : List Nat) (xs : List α) : List α := ix.filterMap fun i => xs[i]?
theorem pick_vals {ix : List Nat} {vs : List V} {us : List Value} (r : Vals vs us) : Vals (pick ix vs) (pick ix us) := by
  unfold pick
  induction ix with
  | nil => exact .nil
  | cons i ix ih =>
    rw [List.filterMap_cons, List.filterMap_cons]
    have h : (vs[i]? = none ∧ us[i]? = none) ∨ ∃ v u, vs[i]? = some v ∧ us[i]? = some u ∧ RelV v u := by
      clear ih
      induction r generalizing i with
      | nil => exact .inl ⟨rfl, rfl⟩
      | @cons v u vs us a b ih =>
        cases i with
        | zero => exact .inr ⟨v, u, rfl, rfl, a⟩
        | succ i => exact ih i
    rcases h with ⟨h1, h2⟩ | ⟨v, u, h1, h2, h3⟩
    · rw [h1, h2]; exact ih
    · rw [h1, h2]; exact .cons h3 ih
theorem pick_rrs {K : PySem.W.Frag} {ex : Addr × Value × Option Addr} {as : List Addr} {G : Hp} {ix : List Nat} {rs : List Rf} {vs : List V} (r : RRs K ex as G rs vs) : RRs K ex as G (pick ix rs) (pick ix vs) := by
  unfold pick
  induction ix with
  | nil => exact .nil
  | cons i ix ih =>
    rw [List.filterMap_cons, List.filterMap_cons]
    have h : (rs[i]? = none ∧ vs[i]? = none) ∨ ∃ v u, rs[i]? = some v ∧ vs[i]? = some u ∧ RR K ex as G v u := by
      clear ih
      induction r generalizing i with
      | nil => exact .inl ⟨rfl, rfl⟩
      | @cons v u vs us a b ih =>
        cases i with
        | zero => exact .inr ⟨_, _, rfl, rfl, by assumption⟩
        | succ i => exact ih i
    rcases h with ⟨h1, h2⟩ | ⟨v, u, h1, h2, h3⟩
    · rw [h1, h2]; exact ih
    · rw [h1, h2]; exact .cons h3 ih
section
variable {X : Cx} {CX : CXT} {k : Nat} {f : Addr} {fd : FuncData} {ps ks : List Str} {sp : Sp} {E : XK} {x : Str} {p pos : Pos} {kws : List Keyword} {tk : TA} {g : List Value → List Value → List Value} {gV : List V → List V → List V}
/-- f(k = v, ..) -/
theorem pe_callK0 (F : FnOk X.prog X.w X.K X.mg X.base CX k f fd ps sp) (hr : Room k X.A) (hg : Gl X x) (hm : X.mg x = some (.ref f)) (hk : PySem.W.keepIn X.K (.ref f) = true) (hb : KBinds X.K fd ps ks g gV) (hx : Passes CX X E)
    (hkw : PK X kws tk) (hall : (backToKw pos (keywordEach kws X.env)).all (·.1.isSome) = true := by rfl) (hks : (backToKw pos (keywordEach kws X.env)).filterMap (·.1) = ks := by rfl)
    (hdb : (x == ("__debug__" : Str)) = false := by decide)
    (hpl : ((backTo pos (starEach [] X.env)).any (·.1) || (backToKw pos (keywordEach kws X.env)).any (·.1.isNone)) = false := by rfl) :
    PE X (.Call (.Name x p) [] kws pos) (tCallK sp gV E tNil tk) := by
  refine ⟨fun pins s σ H Q I h => ?_⟩
  refine wpAny_Call_Name_kw (ld_glob I hg hm ?_ hdb)
  refine PySem.W.callWith_KW0 (h₀ := X.base) I.ok.mod.kin hk hall ?_ hpl
  refine thn (hkw.run pos pins s σ H _ I h) fun ws s2 ⟨zs, H2, I2, rz, q2⟩ => ⟨I2.kIn, ?_⟩
  rw [hks]
  exact run_fnk F hr hb hx I2 .nil rz q2
end
theorem rrs_app {K : PySem.W.Frag} {ex : Addr × Value × Option Addr} {as : List Addr} {G : Hp} {rs rs' : List Rf} {vs vs' : List V} (a : RRs K ex as G rs vs) (b : RRs K ex as G rs' vs') : RRs K ex as G (rs ++ rs') (vs ++ vs') := by
  induction a with
  | nil => exact b
  | cons h _ ih => exact .cons h ih
theorem rrs_len {K : PySem.W.Frag} {ex : Addr × Value × Option Addr} {as : List Addr} {G : Hp} {rs : List Rf} {vs : List V} (a : RRs K ex as G rs vs) : rs.length = vs.length := by
  induction a with
  | nil => rfl
  | cons h _ ih => rw [List.length_cons, List.length_cons, ih]
/-- n positional values and m keywords' values, in the parameters' order -/
def pickN {α : Type} (n m : Nat) (ix : List Nat) (us ws : List α) : List α := if us.length = n ∧ ws.length = m then pick ix (us ++ ws) else []
theorem vals_app {vs vs' : List V} {us us' : List Value} (a : Vals vs us) (b : Vals vs' us') : Vals (vs ++ vs') (us ++ us') := a.append b
theorem pickN_vals {n m : Nat} {ix : List Nat} {vs zs : List V} {us ws : List Value} (r : Vals vs us) (r2 : Vals zs ws) : Vals (pickN n m ix vs zs) (pickN n m ix us ws) := by
  unfold pickN
  rw [r.length, r2.length]
  split
  · exact pick_vals (r.append r2)
  · exact .nil
theorem kb_mk {K : PySem.W.Frag} {fd : FuncData} {ps ks : List Str} {n m : Nat} {ix : List Nat} (hp : ps ≠ [])
    (h : ∀ (s : Shared) (us ws : List Value), K.In s.heap → us.length = n → ws.length = m → BindsTo s fd ⟨us, ks.zip ws⟩ (ps.zip (pick ix (us ++ ws)))) : KBinds K fd ps ks (pickN n m ix) (pickN n m ix) := by
  refine ⟨fun s us ws X l => ?_, pickN_vals⟩
  unfold pickN at l ⊢
  by_cases c : us.length = n ∧ ws.length = m
  · rw [if_pos c] at l ⊢
    exact h s us ws X c.1 c.2
  · rw [if_neg c] at l
    exact absurd (List.eq_nil_of_length_eq_zero l.symm) hp
section
variable {K : PySem.W.Frag} {B : Bs} {E : L2.St → XK} {sp : Sp} {wf : List Rf → Env → RQ → XQ → Prop} [hf : VF K sp wf] {n m : Nat} {ix : List Nat} {t tk : TA} {wa wk : Env → (List Rf → Env → Prop) → XQ → Prop}
def vCallK (n m : Nat) (ix : List Nat) (wf : List Rf → Env → RQ → XQ → Prop) (wa wk : Env → (List Rf → Env → Prop) → XQ → Prop) : VW := fun γ Q X => wa γ (fun rs γ1 => wk γ1 (fun zs γ2 => (rs.length = n ∧ zs.length = m) ∧ wf (pick ix (rs ++ zs)) γ2 Q noX) X) X
instance [ha : VA K B E t wa] [hk : VA K B E tk wk] : VE K B E (tCallK sp (pickN n m ix) E0 t tk) (vCallK n m ix wf wa wk) where
  run := fun {as γ σ G H Q Qv Xv} S h k kx => by
    refine ha.run S h (fun rs γ1 as1 vs G1 H1 p1 g1 S1 rr1 q1 => ?_) kx
    refine hk.run S1 q1 (fun zs γ2 as2 us G2 H2 p2 g2 S2 rr2 q2 => ?_) (kx.mono p1 g1)
    have e : pickN n m ix vs us = pick ix (vs ++ us) := by
      unfold pickN
      rw [if_pos ⟨(rrs_len rr1).symm.trans q2.1.1, (rrs_len rr2).symm.trans q2.1.2⟩]
    show sp (pickN n m ix vs us) H2 Q E0
    rw [e]
    exact hf.run S2 (pick_rrs (rrs_app (RRs.mono p2 g2 rr1) rr2)) q2.2 ((k.mono p1 g1).mono p2 g2) kxno
end
end VL
set_option Elab.async false
set_option linter.all false
set_option maxRecDepth 100000
set_option maxHeartbeats 4000000
/-! targets within targets; {k: v for x in xs}; sorted of triples -/
namespace VL
open PySem PySem.Spec PyProof.Rows L2 XR
section
variable {K : PySem.W.Frag} {B : Bs} {E : L2.St → XK}
/-- a target within a target: at, (word, roll) -/
instance {n : Nat} {u u2 : TGs} {wr wr2 : List Rf → Env → (Env → Prop) → XQ → Prop} {is js : List Nat} [hi : VGT K B E u2 wr2 is] [hr : VGT K B E u wr js] : VGT K B E (gCons (gTup K n u2) u) (vgCons (vgTup n wr2) wr) (is ++ js) where
  run := fun {as γ σ G H xs rs Q Qv Xv} S rr h k => by
    unfold vgCons at h
    split at h
    · cases rr with | cons a b =>
      refine ⟨_, _, rfl, ?_⟩
      obtain ⟨t, q, z⟩ := peek_ok S a h
      split at q
      · obtain ⟨ad, ys, rfl, sq, rp⟩ := tup_any z
        refine ⟨ad, ys, rfl, SqT.same sq.t S.vw, rp.length.trans q.1, ?_⟩
        refine hi.run (Xv := Xv) S rp.rrs q.2 (fun γ2 as2 σ2 G2 H2 p2 g2 S2 w2 q2 => ?_)
        refine hr.run (Xv := Xv) S2 (RRs.mono p2 g2 b) q2 (fun γ3 as3 σ3 G3 H3 p3 g3 S3 w3 q3 => ?_)
        exact k _ _ _ _ _ (p2.trans p3) (g2.trans g3) S3 (fun vs hv => (w3 vs fun i hi => hv i (List.mem_append_right _ hi)).trans (w2 vs fun i hi => hv i (List.mem_append_left _ hi))) q3
      · exact q.elim
    · exact h.elim
end
instance subLA {is js vs : List Nat} [h : SubL is vs] [k : SubL js vs] : SubL (is ++ js) vs := ⟨fun j hj => by
  rcases List.mem_append.mp hj with m | m
  · exact h.h j m
  · exact k.h j m⟩
/-! ### {k: v for x in xs}, keys ints or texts -/
structure LdI (src : Src) (γ1 : Env) (vs : List Nat) (step : T → Env → (Env → Prop) → Prop) (Q : RQ) : Prop where
  ex : ∃ I : Nat → Env → Prop, (∃ γ2, Le (γ1.mem.length + 1) ((γ1.push (.mu (.dk []))).wipe vs) γ2 ∧ I 0 γ2) ∧ (∀ i γ2, I i γ2 → src.on γ2) ∧
    (∀ i t γ2, src.ts[i]? = some t → I i γ2 → step t (γ2.wipe vs) fun γ4 => ∃ γ5, Le (γ1.mem.length + 1) (γ4.wipe vs) γ5 ∧ I (i + 1) γ5) ∧ ∀ γ2, I src.ts.length γ2 → Q (.ref γ1.mem.length) γ2
def putDQ (k : Nat) (y t : T) (γ : Env) (Q : Env → Prop) : Prop := match nth γ.mem k with
  | some (.mu (.dk ks)) => isS (keyT y) fun kk => ks.length < 100000 ∧ Q (γ.put k (.mu (.dk (putA ks kk t))))
  | _ => False
def tDcK (wi : TI) (g : TG) (tt : TT) (tk tv : TE) (vs : List Nat) : TE := tDc wi g tt tk tv vs
def vDc (wi : Env → (Src → Env → Prop) → XQ → Prop) (wg : Rf → Env → (Env → Prop) → XQ → Prop) (wt : Env → (Bool → Env → Prop) → XQ → Prop) (wk we : VW) (vs : List Nat) : VW := fun γ Q X => wi γ (fun src γ1 =>
  LdI src γ1 vs (fun t γ2 N => wg (.val t) γ2 (fun γ3 => wt γ3 (fun c γ4 => br c (wk γ4 (fun rk γ5 => toT rk γ5 fun y γ6 => we γ6 (fun r γ7 => toT r γ7 fun t' γ8 => putDQ γ1.mem.length y t' γ8 N) noX) noX) (N γ4)) noX) noX) Q) X
theorem putD_ok {K : PySem.W.Frag} {B : Bs} {as : List Addr} {γ : Env} {σ : L2.St} {G H : Hp} {k : Nat} {a : Addr} {y t : T} {vk v : V} {Q : Env → Prop} (S : StR K B as γ σ G H) (ea : as[k]? = some a) (ry : Rp K G vk y) (rp : Rp K G v t) (h : putDQ k y t γ Q) :
    ∃ kvs kk, vk = kV kk ∧ H a = some (.dK kvs) ∧ kvs.length < sizeLine ∧ ∃ γ', StR K B as γ' σ G (L2.upd H a (.dK (putK kvs kk v))) ∧ Q γ' := by
  unfold putDQ at h
  rw [nth_eq] at h
  split at h
  · rename_i ks e
    obtain ⟨kk, e2, h⟩ := isS_ok h
    obtain ⟨_, m⟩ := S.mem k a _ ea e
    obtain ⟨kvs, g, f⟩ := m
    refine ⟨kvs, kk, keyT_ok ry e2, g, ?_, _, S.write (t := .dk (putA ks kk t)) e ea ⟨_, upd_same, f.put kk rp⟩, h.2⟩
    have := h.1
    rw [f.len, sizeLine_eq]
    omega
  · exact h.elim
section
variable {K : PySem.W.Frag} {B : Bs} {E : L2.St → XK}
instance {wi : TI} {g : TG} {tt : TT} {tk tv : TE} {vs is : List Nat} {vi : Env → (Src → Env → Prop) → XQ → Prop} {vg : Rf → Env → (Env → Prop) → XQ → Prop} {vt : Env → (Bool → Env → Prop) → XQ → Prop} {vk ve : VW} [hi : VI K B E wi vi] [hg : VG K B E g vg is] [ht : VT K B E tt vt] [hk : VE K B E tk vk] [he : VE K B E tv ve] [hs : SubL is vs] :
    VE K B E (tDcK wi g tt tk tv vs) (vDc vi vg vt vk ve vs) where
  run := fun {as γ σ G H Q Qv Xv} S h k kx => by
    refine hi.run S h (fun src γ1 as1 G1 H1 J p1 g1 S1 ok q1 => ?_) kx
    intro Da hD
    obtain ⟨⟨I, ⟨γ0, le0, i0⟩, on, step, done⟩⟩ := q1
    have SD := (S1.alloc (t := .dk []) (o := .dK []) hD ⟨[], upd_same, ⟨rfl, .nil⟩⟩)
    have lD : (as1 ++ [Da]).length = γ1.mem.length + 1 := by rw [List.length_append, S1.mlen]; rfl
    have aD : (as1 ++ [Da])[γ1.mem.length]? = some Da := by rw [← S1.mlen, List.getElem?_append_right (Nat.le_refl _), Nat.sub_self]; rfl
    obtain ⟨as0, G0, pp0, gg0, SS0⟩ := StR.le le0 (SD.wipe vs) (List.prefix_refl _) lD
    refine ⟨fun i m H' => m = src.ts.length - i ∧ i ≤ src.ts.length ∧ ∃ as' γ' G', as1 ++ [Da] <+: as' ∧ Same G1 G' ∧ StR K B as' γ' σ G' H' ∧ I i γ', ⟨_, rfl, Nat.zero_le _, as0, γ0, G0, pp0, gg0, SS0, i0⟩, ?_⟩
    rintro i m H' ⟨rfl, hi', as', γ', G', p', g', S', inv⟩
    have pq : as1 <+: as' := (List.prefix_append _ _).trans p'
    obtain ⟨go, stop, yld⟩ := ok pq g' S' (on i γ' inv)
    by_cases hlt : i < src.ts.length
    · refine .inr ⟨go i hlt, fun H'' => i + 1 ≤ src.ts.length ∧ ∃ as'' γ'' G'', as1 ++ [Da] <+: as'' ∧ Same G1 G'' ∧ StR K B as'' γ'' σ G'' H'' ∧ I (i + 1) γ'', fun H'' q => ⟨_, by omega, rfl, q.1, q.2⟩, fun x H'' hy => ?_⟩
      obtain ⟨G2, t, et, g2, S2, rp⟩ := yld i x H'' hlt hy
      have S2' : StR K B as' (γ'.wipe vs) (L2.wipe σ vs) G2 H'' := (S2.wipe vs).rewipe (vs := vs) (wipe_wipe σ vs) fun i r e => Env.wipe_none γ' e
      refine hg.run S2' (r := .val t) rp (step i t γ' et inv) (fun γ3 as3 σ3 G3 H3 p3 g3 S3 w3 q3 => ?_) kxno
      have ws : L2.wipe σ3 vs = L2.wipe σ vs := (w3 vs hs.h).trans (wipe_wipe σ vs)
      refine ⟨ws, ht.run S3 q3 (fun b γ4 as4 b' G4 H4 p4 g4 S4 e q4 => ?_) kxno⟩
      cases e
      have gG : Same G1 G4 := (g'.trans g2).trans (g3.trans g4)
      have pP : as1 ++ [Da] <+: as4 := p'.trans (p3.trans p4)
      have fin : ∀ {γ5 : Env} {as5 : List Addr} {G5 H5 : Hp}, Same G1 G5 → as1 ++ [Da] <+: as5 → StR K B as5 γ5 σ3 G5 H5 → (∃ γ6, Le (γ1.mem.length + 1) (γ5.wipe vs) γ6 ∧ I (i + 1) γ6) → i + 1 ≤ src.ts.length ∧ ∃ as'' γ'' G'', as1 ++ [Da] <+: as'' ∧ Same G1 G'' ∧ StR K B as'' γ'' σ G'' H5 ∧ I (i + 1) γ'' := by
        rintro γ5 as5 G5 H5 gg pp S5 ⟨γ6, le6, i6⟩
        have S6 : StR K B as5 (γ5.wipe vs) σ G5 H5 := (S5.wipe vs).rewipe (vs := vs) ws.symm fun i r e => Env.wipe_none γ5 e
        obtain ⟨as7, G7, p7, g7, S7⟩ := StR.le le6 S6 pp lD
        exact ⟨hlt, as7, γ6, G7, p7, gg.trans g7, S7, i6⟩
      cases b with
      | false => exact fin gG pP S4 q4
      | true =>
        refine hk.run S4 q4 (fun r γ5 as5 v G5 H5 p5 g5 S5 rr5 q5 => ?_) kxno
        obtain ⟨y, γ6, G6, g6, S6, rp6, q6⟩ := toT_ok S5 rr5 q5
        refine he.run S6 q6 (fun r7 γ7 as7 v7 G7 H7 p7 g7 S7 rr7 q7 => ?_) kxno
        obtain ⟨t', γ8, G8, g8, S8, rp8, q8⟩ := toT_ok S7 rr7 q7
        have pp : as1 ++ [Da] <+: as7 := (pP.trans p5).trans p7
        have ry : Rp K G8 v y := Rp.mono (g7.trans g8) rp6
        obtain ⟨kvs, kk, ek, e1, e2, γ9, S9, q9⟩ := putD_ok S8 (pre_get pp aD) ry rp8 q8
        exact ⟨kvs, kk, ek, e1, e2, fin (gG.trans (g5.trans (g6.trans (g7.trans g8)))) pp S9 q9⟩
    · have e : i = src.ts.length := by omega
      subst e
      refine .inl ⟨stop, k (.ref γ1.mem.length) _ _ _ _ _ (p1.trans pq) (g1.trans g') S' ⟨Da, pre_get p' aD, rfl⟩ (done γ' inv)⟩
end
section
variable {γ1 : Env} {vs : List Nat} {step : T → Env → (Env → Prop) → Prop} {Q : RQ} {β α : Type} {xs : List α} {f : α → T}
/-- the state with the new dict -/
def ED (γ1 : Env) (vs : List Nat) (ks : List (Key × T)) : Env := (γ1.push (.mu (.dk ks))).wipe vs
theorem ed_mk (n : Nat) (sl : List (Option Rf)) (mem : List MO) (vs : List Nat) (ks : List (Key × T)) : ED ⟨n, sl, mem⟩ vs ks = Env.wipe ⟨n, sl, mem ++ [.mu (.dk ks)]⟩ vs := rfl
@[irreducible] def ND (γ1 : Env) (vs : List Nat) (I : List (Key × T) → Prop) (γ4 : Env) : Prop := ∃ γ5, Le (γ1.mem.length + 1) (γ4.wipe vs) γ5 ∧ ∃ ks, γ5 = ED γ1 vs ks ∧ I ks
theorem ND.mk {I : List (Key × T) → Prop} {γ4 : Env} (ks : List (Key × T)) (l : Le (γ1.mem.length + 1) (γ4.wipe vs) (ED γ1 vs ks)) (p : I ks) : ND γ1 vs I γ4 := by
  unfold ND
  exact ⟨ED γ1 vs ks, l, ks, rfl, p⟩
theorem ld_ts {ts : List T} (I : Nat → List (Key × T) → Prop) (i0 : I 0 []) (hs : ∀ i t ks, ts[i]? = some t → I i ks → step t ((ED γ1 vs ks).wipe vs) (ND γ1 vs (I (i + 1)))) (hd : ∀ ks, I ts.length ks → Q (.ref γ1.mem.length) (ED γ1 vs ks)) : LdI (.fix ts) γ1 vs step Q := by
  unfold ND at hs
  refine ⟨fun i γ => ∃ ks, γ = ED γ1 vs ks ∧ I i ks, ⟨ED γ1 vs [], .refl _, [], rfl, i0⟩, fun _ _ _ => trivial, fun i t γ2 e h => ?_, fun γ2 h => ?_⟩
  · obtain ⟨ks, rfl, p⟩ := h
    exact hs i t ks e p
  · obtain ⟨ks, rfl, p⟩ := h
    exact hd ks p
/-- by an invariant -/
theorem ld_mapI (I : Nat → List (Key × T) → Prop) (i0 : I 0 []) (hs : ∀ (i : Nat) x ks, xs[i]? = some x → I i ks → step (f x) ((ED γ1 vs ks).wipe vs) (ND γ1 vs (I (i + 1)))) (hd : ∀ ks, I xs.length ks → Q (.ref γ1.mem.length) (ED γ1 vs ks)) : LdI (.fix (xs.map f)) γ1 vs step Q := by
  refine ld_ts I i0 (fun i t ks e p => ?_) fun ks p => hd ks (by rw [List.length_map] at p; exact p)
  rw [List.getElem?_map] at e
  cases ex : xs[i]? with
  | none => rw [ex] at e; cases e
  | some x => rw [ex] at e; cases e; exact hs i x ks ex p
end
section
variable {X : Cx}
theorem pe_dcK {kx vx tg iter : Expr} {ifs : List Expr} {scope : Scope} {own : List (Str × Nat)} {pos : Pos} {wi : TI} {g : TG} {tt : TT} {tk tv : TE} (hc : X.calm = true) (hN : X.N.Nodup) (hi : PI X tg iter wi) (ok : BlkOk X.N X.env.scope scope own)
    (hg : ∀ (s : Shared) (H : Hp) (C : Addr) (cl : List (Str × Addr)) (fp : List Addr), PG (X.blk s H scope (compEnvC scope cl C X.env) fp) tg g) (ht : ∀ (s : Shared) (H : Hp) (C : Addr) (cl : List (Str × Addr)) (fp : List Addr), PTs (X.blk s H scope (compEnvC scope cl C X.env) fp) ifs tt)
    (hk : ∀ (s : Shared) (H : Hp) (C : Addr) (cl : List (Str × Addr)) (fp : List Addr), PE (X.blk s H scope (compEnvC scope cl C X.env) fp) kx tk)
    (he : ∀ (s : Shared) (H : Hp) (C : Addr) (cl : List (Str × Addr)) (fp : List Addr), PE (X.blk s H scope (compEnvC scope cl C X.env) fp) vx tv) (hs : ∀ x, foldedSetIterable iter X.env x = pure x := by intro _; rfl) :
    PE X (.DictComp kx vx [⟨tg, iter, ifs, 0⟩] scope pos) (tDcK wi g tt tk tv (own.map (·.2))) := pe_dc hc hN hi ok hg ht hk he hs
end
end VL
set_option Elab.async false
set_option linter.all false
set_option maxRecDepth 100000
set_option maxHeartbeats 4000000
/-! sorted(x) of triples of ints: over values -/
namespace VL
open PySem PySem.Spec PyProof.Rows L2 XR
abbrev I3 := Int × Int × Int
def leT (p q : I3) : Prop := p.1 < q.1 ∨ (p.1 = q.1 ∧ (p.2.1 < q.2.1 ∨ (p.2.1 = q.2.1 ∧ p.2.2 ≤ q.2.2)))
instance (p q : I3) : Decidable (leT p q) := inferInstanceAs (Decidable (_ ∨ _))
def srtT (ps : List I3) : List I3 := ps.mergeSort (fun a b => decide (leT a b))
theorem srtT_perm (ps : List I3) : (srtT ps).Perm ps := List.mergeSort_perm _ _
theorem srtT_ord (ps : List I3) : (srtT ps).Pairwise leT := by
  have := List.pairwise_mergeSort (le := fun a b : I3 => decide (leT a b)) (fun a b c h1 h2 => by simp only [decide_eq_true_eq] at *; unfold leT at *; omega) (fun a b => by simp only [Bool.or_eq_true, decide_eq_true_eq]; unfold leT; omega) ps
  exact this.imp fun h => of_decide_eq_true h
theorem leT_anti (a b : I3) (h1 : leT a b) (h2 : leT b a) : a = b := by
  unfold leT at *
  exact Prod.ext (by omega) (Prod.ext (by omega) (by omega))
theorem srtT_uniq {ms ps : List I3} (p : ms.Perm ps) (o : ms.Pairwise leT) : ms = srtT ps := ord_uniq leT_anti (p.trans (srtT_perm ps).symm) o (srtT_ord ps)
/-- the order that sorting asks -/
def ltT (p q : I3) : Bool := decide (p.1 < q.1 ∨ (p.1 = q.1 ∧ (p.2.1 < q.2.1 ∨ (p.2.1 = q.2.1 ∧ p.2.2 < q.2.2))))
theorem ltT_swo (k : Value → I3) : SrtO.Swo fun v u => ltT (k v) (k u) := by
  refine ⟨fun x y h => ?_, fun x y z h1 h2 => ?_⟩
  · have a := of_decide_eq_true h
    refine decide_eq_false fun b => ?_
    omega
  · have a := of_decide_eq_false h1
    have b := of_decide_eq_false h2
    refine decide_eq_false fun c => ?_
    omega
theorem ltT_swoV (k : V → I3) : SrtO.Swo fun v u => ltT (k v) (k u) := by
  refine ⟨fun x y h => ?_, fun x y z h1 h2 => ?_⟩
  · have a := of_decide_eq_true h
    refine decide_eq_false fun b => ?_
    omega
  · have a := of_decide_eq_false h1
    have b := of_decide_eq_false h2
    refine decide_eq_false fun c => ?_
    omega
/-- a triple in the heap -/
def IsTri (h : Heap) (v : Value) (p : I3) : Prop := ∃ a o t1 t2 t3 n, v = .ref a ∧ h.get? a = some o ∧ o.cls = .type "tuple" ∧ o.data = .seq #[.int p.1 t1, .int p.2.1 t2, .int p.2.2 t3] n
theorem IsTri.keeps {h1 h2 : Heap} {v : Value} {p : I3} (q : IsTri h1 v p) (k : ∀ b o, h1.get? b = some o → o.cls = .type "tuple" → h2.get? b = some o) : IsTri h2 v p := by
  obtain ⟨a, o, t1, t2, t3, n, e, z, c, d⟩ := q
  exact ⟨a, o, t1, t2, t3, n, e, k _ _ z c, c, d⟩
section
variable {prog : Program} {w : World} {A : Around} {E : Value → Shared → Prop} {s : Shared}
theorem tri_cmp {vs : List Value} {k : Value → I3} (hp : ∀ v ∈ vs, IsTri s.heap v (k v)) : SrtO.Cmp prog w A s (tuples' true) (fun p => p.1 ∈ vs) (SrtO.lt2 fun v u => ltT (k v) (k u)) := by
  intro p q hm hm2
  have h1 := hp _ hm
  have h2 := hp _ hm2
  show wpAny (model prog w) A (keyLt' (tuples' true) p.1 q.1) (fun r s' => s' = s ∧ r = ltT (k p.1) (k q.1)) (fun _ _ => False) s
  unfold ltT
  generalize k p.1 = m1 at h1 ⊢
  generalize k q.1 = m2 at h2 ⊢
  obtain ⟨a1, a2, a3⟩ := m1
  obtain ⟨b1, b2, b3⟩ := m2
  obtain ⟨l1, o1, t1, t2, t3, n1, e1, z1, c1, d1⟩ := h1
  obtain ⟨l2, o2, u1, u2, u3, n2, e2, z2, c2, d2⟩ := h2
  rw [e1, e2]
  refine PySem.W.kat_lt z1 d1 z2 d2 ?_
  show PySem.W.KatLex prog w A true (decide (3 < 3)) _ [(.int a1 t1, .int b1 u1), (.int a2 t2, .int b2 u2), (.int a3 t3, .int b3 u3)] 0 s
  dsimp only
  refine PySem.W.kat_cons (SeqAt.EqAt.int_int a1 t1 b1 u1 prog w _ _ ?_)
  refine PySem.W.kat_go (fun q1 => ?_) (fun q1 => ?_)
  · have x1 : a1 = b1 := by simpa using q1
    refine PySem.W.kat_yes (PySem.W.kat_cons (SeqAt.EqAt.int_int a2 t2 b2 u2 prog w _ _ ?_))
    refine PySem.W.kat_go (fun q2 => ?_) (fun q2 => ?_)
    · have x2 : a2 = b2 := by simpa using q2
      refine PySem.W.kat_yes (PySem.W.kat_cons (SeqAt.EqAt.int_int a3 t3 b3 u3 prog w _ _ ?_))
      refine PySem.W.kat_go (fun q3 => ?_) (fun q3 => ?_)
      · have x3 : a3 = b3 := by simpa using q3
        exact PySem.W.kat_yes (PySem.W.kat_nil ⟨rfl, (decide_eq_false (by omega)).symm⟩)
      · have x3 : ¬ a3 = b3 := by simpa using q3
        refine PySem.W.kat_no (PySem.W.kat_one _ _ (PyProof.Rows.lt_int ?_))
        exact (show s = s ∧ decide (a3 < b3) = _ from ⟨rfl, decide_eq_decide.mpr (by omega)⟩)
    · have x2 : ¬ a2 = b2 := by simpa using q2
      refine PySem.W.kat_no (PySem.W.kat_one _ _ (PyProof.Rows.lt_int ?_))
      exact (show s = s ∧ decide (a2 < b2) = _ from ⟨rfl, decide_eq_decide.mpr (by omega)⟩)
  · have x1 : ¬ a1 = b1 := by simpa using q1
    exact PySem.W.kat_no (PyProof.Rows.oneLt_int (show s = s ∧ decide (a1 < b1) = _ from ⟨rfl, decide_eq_decide.mpr (by omega)⟩))
theorem tri_firsts {h : Heap} : ∀ {vs : List Value}, (∀ v ∈ vs, ∃ p, IsTri h v p) → ∃ fs : List Value, PySem.W.KatTups h vs fs ∧ fs.length = vs.length ∧ ∀ f ∈ fs, ∃ x t, f = Value.int x t
  | [], _ => ⟨[], PySem.W.KatTups.nil, rfl, fun f hf => by cases hf⟩
  | v :: r, hp => by
    obtain ⟨fs, f1, f2, f3⟩ := tri_firsts (vs := r) fun u hu => hp u (List.mem_cons_of_mem _ hu)
    obtain ⟨p, a, o, t1, t2, t3, n, e, z, c, d⟩ := hp v List.mem_cons_self
    cases e
    refine ⟨.int p.1 t1 :: fs, PySem.W.KatTups.cons z c d rfl f1, congrArg (· + 1) f2, fun f hf => ?_⟩
    rcases List.mem_cons.mp hf with q | hf
    · exact ⟨p.1, t1, q⟩
    · exact f3 f hf
theorem tri_sortable {a : Addr} {vs : List Value} {k : Value → I3} (h0 : 0 < vs.length) (hp : ∀ v ∈ vs, IsTri s.heap v (k v)) (ha : ∀ o, s.heap.get? a = some o → o.cls ≠ .type "tuple") : SrtO.SortableO prog w A s a vs fun v u => ltT (k v) (k u) := by
  intro hh kp
  have hq : ∀ v ∈ vs, IsTri hh v (k v) := fun v hm => (hp v hm).keeps fun b o e c => kp b o (fun z => ha o (z ▸ e) c) e
  obtain ⟨fs, f1, f2, f3⟩ := tri_firsts fun v hm => ⟨_, hq v hm⟩
  refine ⟨tuples' true, fun Q X hx => ?_, tri_cmp (s := { s with heap := hh }) hq⟩
  refine PySem.W.kat_kind (T := .type "int") f1 (by rw [f2]; exact h0) (fun f hm => ?_) (by rfl) ?_
  · obtain ⟨x, t, e⟩ := f3 f hm
    rw [e]
    exact PySem.W.Looks.now
  · rw [show (Value.type "int" != Value.type "tuple") = true by decide]
    exact hx
theorem sorted_tri {l : Addr} {vs : List Value} {k : Value → I3} {Q : Value → Shared → Prop} (hl : s.heap.IsList l vs.toArray) (hz : vs.length ≤ sizeLine) (hp : ∀ v ∈ vs, IsTri s.heap v (k v))
    (h : ∀ (h2 : Heap) (d : Addr) (out : List Value), SrtO.Srtd (fun v u => ltT (k v) (k u)) out → SrtO.Stb (fun v u => ltT (k v) (k u)) out vs → (∀ b o, s.heap.get? b = some o → h2.get? b = some o) → s.heap.objs.size ≤ d → (∃ n, h2.get? d = some (seqObj "list" out.toArray n)) → Q (.ref d) { s with heap := h2 }) :
    wpAny (model prog w) A (call (.builtin "sorted") [.ref l]) Q E s := by
  refine SrtO.sorted_ord (ltT_swo k) hl hz (fun two h1 a ha kk => ?_) fun out hs hb => ?_
  · refine tri_sortable (s := { s with heap := h1 }) (Nat.lt_of_lt_of_le Nat.zero_lt_two two) (fun v hm => (hp v hm).keeps fun b o e _ => (kk b o e).2) fun o e c => ?_
    have := Option.some.inj (e.symm.trans ha)
    subst this
    exact absurd (Value.type.inj c) (by decide)
  · exact h _ _ out hs hb (fun b o e => PyProof.Rows.sortedAll_old e) (Nat.le_succ _) (PyProof.Rows.sortedAll_at s.heap vs out.toArray)
end
/-- sorted(xs), a list of triples of ints -/
def rSortedTT (K : PySem.W.Frag) : List V → Hp → VK → Prop := fun vs H Q => ∃ (a : Addr) (zs : List (V × I3)), vs = [V.ref a] ∧ SqL K H a (zs.map Prod.fst) ∧ (∀ z ∈ zs, ∃ t, z.1 = V.ref t ∧ SqT K H t [.int z.2.1, .int z.2.2.1, .int z.2.2.2]) ∧
  ∀ (ys : List (V × I3)) q, ys.Perm zs → (ys.map Prod.snd).Pairwise leT → H q = none → Q (.ref q) (upd H q (.lst (ys.map Prod.fst)))
theorem vals3 {x y z : V} {us : List Value} (r : Vals [x, y, z] us) : ∃ a b c, us = [a, b, c] ∧ RelV x a ∧ RelV y b ∧ RelV z c := by
  cases r with | cons r1 r =>
  cases r with | cons r2 r =>
  cases r with | cons r3 r =>
  cases r
  exact ⟨_, _, _, rfl, r1, r2, r3⟩
section
variable {X : Cx}
open Classical in
theorem cr_sortedTT : CallR X (.builtin "sorted") (rSortedTT X.K) := by
  intro pins s σ H vs us Q I r h
  obtain ⟨a, zs, rfl, hs, hx, q⟩ := h
  obtain ⟨its, rv, hl, hz⟩ := I.list hs
  obtain ⟨u, rfl, ru⟩ := vals1 r
  obtain rfl : u = Value.ref a := ru
  let k : V → I3 := fun x => match x with
    | .ref t => if h : ∃ p : I3, SqT X.K H t [.int p.1, .int p.2.1, .int p.2.2] then choose h else (0, 0, 0)
    | _ => (0, 0, 0)
  have kz : ∀ z ∈ zs, k z.1 = z.2 := fun z hm => by
    obtain ⟨t, e, ht⟩ := hx z hm
    have h : ∃ p : I3, SqT X.K H t [.int p.1, .int p.2.1, .int p.2.2] := ⟨z.2, ht⟩
    have e1 : k z.1 = choose h := by rw [e]; exact dif_pos h
    have e2 := I.tuple_inj (choose_spec h) ht
    injection e2 with e3 e4
    injection e4 with e4 e5
    injection e5 with e5 _
    injection e3 with e3
    injection e4 with e4
    injection e5 with e5
    rw [e1]
    exact Prod.ext e3 (Prod.ext e4 e5)
  obtain ⟨e1, e2⟩ := refs_back rv fun x m => by
    obtain ⟨z, hz, rfl⟩ := List.mem_map.mp m
    obtain ⟨t, e, _⟩ := hx z hz
    exact ⟨t, e⟩
  refine sorted_tri (k := fun u => k (backV u)) hl.isList (by rw [← rv.length]; exact hz) (fun v hv => ?_) fun h' d out h1 h2 kp hd hn => ?_
  · obtain ⟨t, rfl⟩ := e2 v hv
    have hm : V.ref t ∈ zs.map Prod.fst := by rw [e1]; exact List.mem_map.mpr ⟨_, hv, rfl⟩
    obtain ⟨z, hz, ez⟩ := List.mem_map.mp hm
    obtain ⟨t', e, ht⟩ := hx z hz
    have et : t' = t := by rw [e] at ez; injection ez
    subst et
    obtain ⟨its2, r2, ⟨o, ho, hc, n, hd⟩, _⟩ := I.tuple ht
    obtain ⟨u1, u2, u3, rfl, ri, rj, rk⟩ := vals3 r2
    obtain ⟨t1, rfl⟩ := ri
    obtain ⟨t2, rfl⟩ := rj
    obtain ⟨t3, rfl⟩ := rk
    have ek : k (backV (.ref t')) = z.2 := by rw [← kz z hz, e]; rfl
    rw [ek]
    exact ⟨t', o, t1, t2, t3, n, rfl, ho, hc, hd⟩
  · have h3 : ∀ u ∈ out, ∃ a, u = Value.ref a := fun u hu => e2 u (h2.perm.mem_iff.mp hu)
    obtain ⟨n, hn⟩ := hn
    have hb : SrtO.Stb (fun v u => ltT (k v) (k u)) (out.map backV) (zs.map Prod.fst) := by
      rw [e1]
      exact SrtO.Stb.map (ltT_swoV k) backV h2
    have hperm := hb.perm
    have ez : (zs.map Prod.fst).map (fun x => (x, k x)) = zs := by
      rw [List.map_map]
      conv => rhs; rw [← List.map_id zs]
      exact List.map_congr_left fun z hz => Prod.ext rfl (kz z hz)
    have ey : ((out.map backV).map fun x => (x, k x)).map Prod.fst = out.map backV := by
      rw [List.map_map]
      exact List.map_id _
    have q := q ((out.map backV).map fun x => (x, k x)) d (by rw [← ez]; exact hperm.map _) (by
      rw [List.map_map, List.map_map]
      refine List.pairwise_map.mpr (List.Pairwise.imp (fun {x y} hxy => ?_) h1)
      have := of_decide_eq_false hxy
      show leT (k (backV x)) (k (backV y))
      unfold leT
      omega) (I.hok.fresh hd)
    rw [ey] at q
    refine ⟨.ref d, upd H d (.lst (out.map backV)), I.laid (t' := s.toks) kp hd ⟨?_, out, n, vals_back h3, hn⟩, rfl, q⟩
    rw [hb.len]
    exact hz
variable {K : PySem.W.Frag}
theorem call_sortedT (e : X.K = K) : CallR X (.builtin "sorted") (rSortedTT K) := e ▸ cr_sortedTT
end
section
variable {K : PySem.W.Frag} {B : Bs} {E : L2.St → XK}
def tIT (p : I3) : T := .tup [.int p.1, .int p.2.1, .int p.2.2]
def vSortedT : List Rf → VW := look1 fun t Q γ => match t with
  | .lst ts => ∃ ps : List I3, ts = ps.map tIT ∧ γ.new (.lst ((srtT ps).map tIT)) Q
  | _ => False
theorem tris_inv {G : Hp} : ∀ {vs : List V} {ps : List I3}, RpAll K G vs (ps.map tIT) → ∃ zs : List (V × I3), vs = zs.map Prod.fst ∧ ps = zs.map Prod.snd ∧ ∀ z ∈ zs, Rp K G z.1 (tIT z.2)
  | _, [], .nil => ⟨[], rfl, rfl, fun z hz => by cases hz⟩
  | _, p :: ps, .cons a r => by
    obtain ⟨zs, rfl, rfl, h⟩ := tris_inv r
    refine ⟨(_, p) :: zs, rfl, rfl, fun z hz => ?_⟩
    rcases List.mem_cons.mp hz with rfl | hz
    · exact a
    · exact h z hz
theorem tris_all {G : Hp} : ∀ {zs : List (V × I3)}, (∀ z ∈ zs, Rp K G z.1 (tIT z.2)) → RpAll K G (zs.map Prod.fst) ((zs.map Prod.snd).map tIT)
  | [], _ => .nil
  | z :: zs, h => .cons (h z List.mem_cons_self) (tris_all fun y hy => h y (List.mem_cons_of_mem _ hy))
instance : VC K B E (rSortedTT K) vSortedT where
  run := fun {as γ σ G H vs rs Q Qv Xv} S r1 h k _ => by
    obtain ⟨v, t, rfl, z, h⟩ := look1_ok S r1 h
    split at h
    · obtain ⟨ps, rfl, h⟩ := h
      obtain ⟨a, acc, rfl, e, rp⟩ := lst_any S z
      obtain ⟨zs, rfl, rfl, hz⟩ := tris_inv rp
      refine ⟨a, zs, rfl, SqL.of e, fun z hm => ?_, fun ys p hp ho hn => ?_⟩
      · have r := hz z hm
        obtain ⟨v, p⟩ := z
        have r : Rp K G v (.tup [.int p.1, .int p.2.1, .int p.2.2]) := r
        cases r with | tup s1 s2 =>
        cases s2 with | cons a1 s2 =>
        cases s2 with | cons a2 s2 =>
        cases s2 with | cons a3 s2 =>
        cases s2
        cases a1
        cases a2
        cases a3
        exact ⟨_, rfl, SqT.same s1.t S.vw⟩
      · have e2 : ys.map Prod.snd = srtT (zs.map Prod.snd) := srtT_uniq (hp.map _) ho
        rw [← e2] at h
        exact knew k S (tris_all fun y hy => hz y (hp.mem_iff.mp hy)) h hn
    · exact h.elim
end
end VL
set_option Elab.async false
set_option linter.all false
set_option maxRecDepth 100000
set_option maxHeartbeats 4000000
/-! min(x) of pairs of ints: over values -/
namespace VL
open PySem PySem.Spec PyProof.Rows L2 XR
/-- what stood at first stands, but for the walk's own and the store -/
def Old (h0 : Heap) (wr : List Addr) (S : Addr) (h1 : Heap) : Prop := ∀ b o, b ∉ wr → b ≠ S → h0.get? b = some o → h1.get? b = some o
/-- items are compared while the old objects stand -/
def CmpH (prog : Program) (w : World) (A : Around) (h0 : Heap) (wr : List Addr) (S : Addr) (P : Nat → Value → Prop) (bt : Nat → Nat → Bool) : Prop :=
  ∀ i j x y (u : Shared) (Q : Value → Shared → Prop) (E : Value → Shared → Prop), Old h0 wr S u.heap → P i x → P j y → Q (.bool (bt i j)) u → wpAny (model prog w) A (richCompare .Lt x y) Q E u
section
variable {prog : Program} {w : World} {A : Around} {R : Result → Shared → Prop} {J S : Addr} {fp wr : List Addr} {n : Nat} {P : Nat → Value → Prop} {St : Nat → Heap → Prop} {h0 : Heap} {bt : Nat → Nat → Bool} {dk : List (Str × Value)}
abbrev two (x : Value) (c : Nat) : Obj := { cls := .type "list", dict := none, data := .seq #[x, x] c, slots := #[] }
theorem minH_name : (toString "min" ++ toString ".loop" : String) = "min.loop" := by decide +kernel
theorem minH_loop (W : Walks prog w A.in1 J fp wr n P St) (cmp : CmpH prog w A.in1 h0 wr S P bt) (nf : S ∉ fp) : ∀ (m i : Nat) (u : Shared) (best : Value) (c : Nat), n - (i + 1) = m → i + 1 ≤ n → Old h0 wr S u.heap → St (i + 1) u.heap → P (argBest bt i) best → u.heap.get? S = some (two best c) →
    (∀ v h1 tk, P (argBest bt (n - 1)) v → Old h0 wr S h1 → R (.ok (.ret v)) { u with heap := h1, toks := tk }) → codeAny (model prog w) A (.builtin "min.loop" ⟨[.ref J, .none, .ref S], dk⟩) R u := by
  have nw : S ∉ wr := fun z => nf (W.sub _ z)
  intro m
  induction m with
  | zero =>
    intro i u best c e1 e2 old st pb hS fin
    have ei : i + 1 = n := by omega
    refine codeAny_builtin F.entry_min_loop ?_; rw [Around.under_plainId F.plain_min_loop _]
    show wpAny _ A.in1 (seqItems? (.ref S) >>= _) _ _ u; refine wpAny_bind (wpAny_seqItems hS rfl ?_)
    show wpAny _ A.in1 (tryCatch (pyNext (.ref J)) _ >>= _) _ _ u
    refine wpAny_bind (wpAny_tryCatch (W.done u _ _ (ei ▸ st) fun h1 tk kp => ?_))
    have hS1 := kp S _ nw hS
    show wpAny _ A.in1 (updateSeq S (fun _ => #[]) >>= _) _ _ _; refine wpAny_bind ?_
    refine wpAny_updateSeq hS1 rfl (wpAny_bind (wpAny_letGo (wpAny_pure (fin best _ tk (by rw [← ei]; exact pb) fun b o b1 b2 e => ?_))))
    exact (Heap.get?_update_other _ _ (Ne.symm b2)).trans (kp b o b1 (old b o b1 b2 e))
  | succ m ih =>
    intro i u best c e1 e2 old st pb hS fin
    have il : i + 1 < n := by omega
    refine codeAny_builtin F.entry_min_loop ?_; rw [Around.under_plainId F.plain_min_loop _]
    show wpAny _ A.in1 (seqItems? (.ref S) >>= _) _ _ u; refine wpAny_bind (wpAny_seqItems hS rfl ?_)
    show wpAny _ A.in1 (tryCatch (pyNext (.ref J)) _ >>= _) _ _ u
    refine wpAny_bind (wpAny_tryCatch (W.item (i + 1) u _ _ il st fun v h1 tk pv st1 kp => ?_))
    have hS1 := kp S _ nw hS
    have old1 : Old h0 wr S h1 := fun b o b1 b2 e => kp b o b1 (old b o b1 b2 e)
    show wpAny _ A.in1 (tryCatch (holding [v, v] (richCompare .Lt v best >>= _)) _ >>= _) _ _ _
    refine wpAny_bind (wpAny_tryCatch (wpAny_holding (wpAny_bind (cmp (i + 1) (argBest bt i) v best _ _ _ old1 pv pb ?_))))
    refine wpAny_bind (wpAny_holding (wpAny_truthy_bool ?_)); refine wpAny_bind (wpAny_letGo (wpAny_pure ?_))
    cases hb : bt (i + 1) (argBest bt i) with
    | true =>
      simp only [if_true]
      refine wpAny_bind ?_
      refine wpAny_updateSeq hS1 rfl (wpAny_bind (wpAny_letGo ?_)); rw [minH_name]
      have old2 : Old h0 wr S (h1.update S (Obj.mapSeq fun _ => #[v, v])) := fun b o b1 b2 e => (Heap.get?_update_other _ _ (Ne.symm b2)).trans (old1 b o b1 b2 e)
      refine wpAny_pure ⟨plainId_quiet F.plain_min_loop _, ih (i + 1) _ v _ (by omega) il old2 (W.frame _ _ _ st1 fun b bf o e => ?_) (by simp only [argBest, hb, if_true]; exact pv) (Heap.get?_update_self _ hS1 rfl) fun v2 h2 tk2 p2 o2 => fin v2 h2 tk2 p2 o2⟩
      exact (Heap.get?_update_other _ _ (fun z : S = b => nf (z ▸ bf))).trans e
    | false =>
      simp only [Bool.false_eq_true, if_false]
      refine wpAny_bind (wpAny_letGo ?_); rw [minH_name]
      exact wpAny_pure ⟨plainId_quiet F.plain_min_loop _, ih (i + 1) _ best c (by omega) il old1 st1 (by simp only [argBest, hb, Bool.false_eq_true, if_false]; exact pb) hS1 fun v2 h2 tk2 p2 o2 => fin v2 h2 tk2 p2 o2⟩
/-- the first turn -/
theorem minH_first (W : Walks prog w A.in1 J fp wr n P St) (cmp : CmpH prog w A.in1 h0 wr S P bt) (nf : S ∉ fp) (hn : 0 < n) {u : Shared} {c : Nat} (old : Old h0 wr S u.heap) (st : St 0 u.heap) (hS : u.heap.get? S = some { cls := .type "list", dict := none, data := .seq #[] c, slots := #[] })
    (fin : ∀ v h1 tk, P (argBest bt (n - 1)) v → Old h0 wr S h1 → R (.ok (.ret v)) { u with heap := h1, toks := tk }) : codeAny (model prog w) A (.builtin "min.loop" ⟨[.ref J, .none, .ref S], dk⟩) R u := by
  have nw : S ∉ wr := fun z => nf (W.sub _ z)
  refine codeAny_builtin F.entry_min_loop ?_; rw [Around.under_plainId F.plain_min_loop _]
  show wpAny _ A.in1 (seqItems? (.ref S) >>= _) _ _ u; refine wpAny_bind (wpAny_seqItems hS rfl ?_)
  show wpAny _ A.in1 (tryCatch (pyNext (.ref J)) _ >>= _) _ _ u
  refine wpAny_bind (wpAny_tryCatch (W.item 0 u _ _ hn st fun v h1 tk pv st1 kp => ?_))
  have hS1 := kp S _ nw hS
  show wpAny _ A.in1 (updateSeq S (fun _ => #[v, v]) >>= _) _ _ _; refine wpAny_bind ?_
  refine wpAny_updateSeq hS1 rfl ?_; rw [minH_name]
  refine wpAny_pure ⟨plainId_quiet F.plain_min_loop _, minH_loop W cmp nf _ 0 _ v _ rfl hn (fun b o b1 b2 e => (Heap.get?_update_other _ _ (Ne.symm b2)).trans (kp b o b1 (old b o b1 b2 e))) (W.frame _ _ _ st1 fun b bf o e => ?_) pv (Heap.get?_update_self _ hS1 rfl) fun v2 h2 tk2 p2 o2 => fin v2 h2 tk2 p2 o2⟩
  exact (Heap.get?_update_other _ _ (fun z : S = b => nf (z ▸ bf))).trans e
end
section
variable {prog : Program} {w : World} {A : Around} {E : Value → Shared → Prop} {s : Shared}
/-- min(l), a list: items compared while all that stood stands -/
theorem minH {l : Addr} {its : Array Value} {bt : Nat → Nat → Bool} {Q : Value → Shared → Prop} (hh : A.handled = none) (hl : s.heap.IsList l its) (ne : 0 < its.size)
    (cmp : ∀ i j x y (u : Shared) (Q : Value → Shared → Prop) (E : Value → Shared → Prop), (∀ b o, s.heap.get? b = some o → u.heap.get? b = some o) → its[i]? = some x → its[j]? = some y → Q (.bool (bt i j)) u → wpAny (model prog w) A.in1 (richCompare .Lt x y) Q E u)
    (fin : ∀ v h1 tk, its[argBest bt (its.size - 1)]? = some v → (∀ b o, s.heap.get? b = some o → h1.get? b = some o) → Q v { s with heap := h1, toks := tk }) : wpAny (model prog w) A (call (.builtin "min") [.ref l]) Q E s := by
  have ll : l < s.heap.objs.size := by obtain ⟨_, e, _⟩ := hl; exact Heap.lt_size e
  refine call_function_tree F.kind_min F.plain_min F.entry_min (F.args_min1 _) ?_; show wpAny _ A.in1 (Builtin.Builtins.bindParams "min" ["key", "default"] 0 ⟨[], []⟩ >>= _) _ _ s
  refine wpAny_bind (wpAny_of_eq (a := [none, none]) rfl ?_); refine wpAny_bind (wpAny_pure ?_)
  refine wpAny_bind (wpAny_pyIter_list hl ?_); refine wpAny_bind (wpAny_newObj_type ?_)
  have hl2 : (s.heap.push { cls := .type "list_iterator", data := .fields #[.ref l, .int 0 0] }).IsList l its := hl.push _
  have W := Walks.list (prog := prog) (w := w) (A := A.in1) hh s.heap.objs.size l (Nat.ne_of_lt ll) its
  have sz : (s.heap.push { cls := .type "list_iterator", data := .fields #[.ref l, .int 0 0] }).objs.size = s.heap.objs.size + 1 := Heap.size_push ..
  have up : ∀ b o, s.heap.get? b = some o → ((s.heap.push { cls := .type "list_iterator", data := .fields #[.ref l, .int 0 0] }).push { cls := .type "list", data := .seq #[] }).get? b = some o := fun b o e => Heap.get?_push_of_some _ (Heap.get?_push_of_some _ e)
  rw [minH_name]
  have nf : s.heap.objs.size + 1 ∉ [s.heap.objs.size, l] := fun z => by
    rcases List.mem_cons.mp z with z | z
    · exact absurd z (Nat.succ_ne_self _)
    · exact absurd (List.mem_singleton.mp z).symm (Nat.ne_of_lt (Nat.lt_succ_of_lt ll))
  have cH : CmpH prog w A.in1 s.heap [s.heap.objs.size] (s.heap.objs.size + 1) (fun i v => its[i]? = some v) bt := fun i j x y u Q E old hx hy hq => by
    refine cmp i j x y u Q E (fun b o e => old b o (fun z => ?_) (fun z => ?_) e) hx hy hq
    · exact absurd (List.mem_singleton.mp z) (Nat.ne_of_lt (Heap.lt_size e))
    · exact absurd z (Nat.ne_of_lt (Nat.lt_succ_of_lt (Heap.lt_size e)))
  refine wpAny_pure ⟨plainId_quiet F.plain_min_loop _, ?_⟩
  have e0 : (s.heap.push { cls := .type "list_iterator", data := .fields #[.ref l, .int 0 0] }).objs.size = s.heap.objs.size + 1 := sz
  have hS0 : ((s.heap.push { cls := .type "list_iterator", data := .fields #[.ref l, .int 0 0] }).push { cls := .type "list", data := .seq #[] }).get? (s.heap.objs.size + 1) = some { cls := .type "list", dict := none, data := .seq #[] 0, slots := #[] } := by
    rw [← e0]
    exact Heap.get?_push_size _ (show Obj.isFreed { cls := .type "list", data := .seq #[] } = false from rfl)
  refine minH_first (u := { s with heap := (s.heap.push { cls := .type "list_iterator", data := .fields #[.ref l, .int 0 0] }).push { cls := .type "list", data := .seq #[] } }) (c := 0) (fp := [s.heap.objs.size, l]) (S := (s.heap.push { cls := .type "list_iterator", data := .fields #[.ref l, .int 0 0] }).objs.size) W (e0 ▸ cH) (e0 ▸ nf) ne (fun b o b1 b2 e => up b o e) (W.frame _ _ _ ⟨⟨_, Heap.get?_push_size _ rfl, rfl, rfl⟩, hl2⟩ fun b _ o e => Heap.get?_push_of_some _ e) (by rw [e0]; exact hS0) fun v h1 tk pv old => ?_
  exact fin v h1 tk pv fun b o e => old b o (fun z => absurd (List.mem_singleton.mp z) (Nat.ne_of_lt (Heap.lt_size e))) (fun z => absurd (z.trans e0) (Nat.ne_of_lt (Nat.lt_succ_of_lt (Heap.lt_size e)))) e
end
/-! ### over values -/
/-- the order of pairs -/
def ltP2 (p q : Int × Int) : Bool := decide (p.1 < q.1 ∨ (p.1 = q.1 ∧ p.2 < q.2))
theorem arg_ltP (v : Nat → Int × Int) : ∀ m : Nat, argBest (fun i j => ltP2 (v i) (v j)) m ≤ m ∧ ∀ j, j ≤ m → leP (v (argBest (fun i j => ltP2 (v i) (v j)) m)) (v j)
  | 0 => ⟨Nat.le_refl _, fun j hj => by
    have : j = 0 := by omega
    subst this
    exact .inr ⟨rfl, Int.le_refl _⟩⟩
  | m + 1 => by
    obtain ⟨h1, h2⟩ := arg_ltP v m
    unfold argBest
    by_cases c : ltP2 (v (m + 1)) (v (argBest (fun i j => ltP2 (v i) (v j)) m)) = true
    · rw [if_pos c]
      refine ⟨Nat.le_refl _, fun j hj => ?_⟩
      have c := of_decide_eq_true c
      by_cases e : j = m + 1
      · subst e; exact .inr ⟨rfl, Int.le_refl _⟩
      · have := h2 j (by omega)
        unfold leP at *
        omega
    · rw [if_neg c]
      refine ⟨Nat.le_succ_of_le h1, fun j hj => ?_⟩
      by_cases e : j = m + 1
      · subst e
        have c := of_decide_eq_false (Bool.eq_false_iff.mpr c)
        unfold leP
        omega
      · exact h2 j (by omega)
/-- min(xs), a list of pairs of ints -/
def rMinP (K : PySem.W.Frag) : List V → Hp → VK → Prop := fun vs H Q => ∃ (a : Addr) (zs : List (V × (Int × Int))), vs = [V.ref a] ∧ SqL K H a (zs.map Prod.fst) ∧ 0 < zs.length ∧ (∀ z ∈ zs, ∃ t, z.1 = V.ref t ∧ SqT K H t [.int z.2.1, .int z.2.2]) ∧
  ∀ z ∈ zs, (∀ y ∈ zs, leP z.2 y.2) → Q z.1 H
section
variable {X : Cx}
theorem cr_minP (hc : X.calm = true) (hu : X.A.units + 65 < cLine) : CallR X (.builtin "min") (rMinP X.K) := by
  intro pins s σ H vs us Q I r h
  obtain ⟨a, zs, rfl, hs, hne, hx, q⟩ := h
  obtain ⟨its, rv, hl, hz⟩ := I.list hs
  obtain ⟨u, rfl, ru⟩ := vals1 r
  obtain rfl : u = Value.ref a := ru
  have len : its.length = zs.length := by rw [← rv.length, List.length_map]
  have num : ∀ (i : Nat) (x : Value), its.toArray[i]? = some x → ∃ z, zs[i]? = some z ∧ RelV z.1 x := fun i x e => by
    have e : its[i]? = some x := by simpa using e
    have hi : i < zs.length := by rw [← len]; exact (List.getElem?_eq_some_iff.mp e).1
    obtain ⟨y, e2, r2⟩ := rv.get (i := i) (x := (zs[i]).1) (by rw [List.getElem?_map, List.getElem?_eq_getElem hi]; rfl)
    rw [e] at e2
    cases e2
    exact ⟨zs[i], List.getElem?_eq_getElem hi, r2⟩
  let v : Nat → Int × Int := fun i => (zs.getD i (V.non, (0, 0))).2
  have vz : ∀ (i : Nat) z, zs[i]? = some z → v i = z.2 := fun i z e => by
    show (zs.getD i (V.non, (0, 0))).2 = z.2
    rw [List.getD_eq_getElem?_getD, e]; rfl
  refine minH (bt := fun i j => ltP2 (v i) (v j)) (I.ok.hd hc) hl.isList (by simpa [len] using hne) (fun i j x y u Q E kp ex ey hq => ?_) fun x h1 tk ex kp => ?_
  · obtain ⟨z1, f1, r1⟩ := num i x ex
    obtain ⟨z2, f2, r2⟩ := num j y ey
    obtain ⟨t1, g1, s1⟩ := hx z1 (List.mem_of_getElem? f1)
    obtain ⟨t2, g2, s2⟩ := hx z2 (List.mem_of_getElem? f2)
    rw [g1] at r1
    rw [g2] at r2
    obtain rfl : x = Value.ref t1 := r1
    obtain rfl : y = Value.ref t2 := r2
    obtain ⟨i1, q1, ⟨o1, b1, c1, n1, d1⟩, _⟩ := I.tuple s1
    obtain ⟨i2, q2, ⟨o2, b2, c2, n2, d2⟩, _⟩ := I.tuple s2
    obtain ⟨u1, w1, rfl, ⟨k1, rfl⟩, ⟨k2, rfl⟩⟩ := vals2 q1
    obtain ⟨u2, w2, rfl, ⟨k3, rfl⟩, ⟨k4, rfl⟩⟩ := vals2 q2
    have L := SeqAt.RcLt.tuples (A := X.A.in1) (s := u) (l := t1) (b := t2) (items := #[.int z1.2.1 k1, .int z1.2.2 k2]) (items2 := #[.int z2.2.1 k3, .int z2.2.2 k4])
      (e := fun j => if j = 0 then decide (z1.2.1 = z2.2.1) else decide (z1.2.2 = z2.2.2)) (r := fun j => if j = 0 then decide (z1.2.1 < z2.2.1) else decide (z1.2.2 < z2.2.2)) ⟨o1, kp _ _ b1, c1, n1, d1⟩ ⟨o2, kp _ _ b2, c2, n2, d2⟩ (by show X.A.units + 1 < cLine; omega)
      (fun j h1 h2 => by
        match j, h1, h2 with
        | 0, _, _ => exact SeqAt.EqAt.int_int _ _ _ _
        | 1, _, _ => exact SeqAt.EqAt.int_int _ _ _ _)
      (fun j h1 h2 _ => by
        match j, h1, h2 with
        | 0, _, _ => exact fun _ _ _ _ h => PyProof.Rows.lt_int h
        | 1, _, _ => exact fun _ _ _ _ h => PyProof.Rows.lt_int h)
    refine L _ _ _ _ ?_
    have e : SeqAt.firstLt (fun j => if j = 0 then decide (z1.2.1 = z2.2.1) else decide (z1.2.2 = z2.2.2)) (fun j => if j = 0 then decide (z1.2.1 < z2.2.1) else decide (z1.2.2 < z2.2.2)) (decide (2 < 2)) [0, 1] = ltP2 (v i) (v j) := by
      rw [vz i z1 f1, vz j z2 f2]
      unfold ltP2 SeqAt.firstLt SeqAt.firstLt SeqAt.firstLt
      by_cases c : z1.2.1 = z2.2.1
      · by_cases d : z1.2.2 = z2.2.2 <;> simp [c, d]
      · simp [c]
    have e2 : SeqAt.firstLt (fun j => if j = 0 then decide (z1.2.1 = z2.2.1) else decide (z1.2.2 = z2.2.2)) (fun j => if j = 0 then decide (z1.2.1 < z2.2.1) else decide (z1.2.2 < z2.2.2)) (decide ((#[Value.int z1.2.1 k1, .int z1.2.2 k2] : Array Value).size < (#[Value.int z2.2.1 k3, .int z2.2.2 k4] : Array Value).size)) (List.range (min (#[Value.int z1.2.1 k1, .int z1.2.2 k2] : Array Value).size (#[Value.int z2.2.1 k3, .int z2.2.2 k4] : Array Value).size)) = ltP2 (v i) (v j) := e
    rw [e2]
    exact hq
  · obtain ⟨z, f, r2⟩ := num _ x ex
    obtain ⟨_, best⟩ := arg_ltP v (its.toArray.size - 1)
    have hq := q z (List.mem_of_getElem? f) fun y hy => by
      obtain ⟨j, hj, ej⟩ := List.mem_iff_getElem.mp hy
      have b := best j (by simp only [List.size_toArray]; omega)
      rw [vz _ z f, vz j y (by rw [List.getElem?_eq_getElem hj, ej])] at b
      exact b
    exact ⟨z.1, H, I.kept kp, r2, hq⟩
variable {K : PySem.W.Frag}
theorem call_minP (e : X.K = K) (hu : X.A.units + 65 < cLine) (hc : X.calm = true) : CallR X (.builtin "min") (rMinP K) := e ▸ cr_minP hc hu
end
section
variable {K : PySem.W.Frag} {B : Bs} {E : L2.St → XK}
def vMinP : List Rf → VW := look1 fun t Q γ => match t with
  | .lst ts => ∃ ps : List (Int × Int), ts = ps.map tIP ∧ 0 < ps.length ∧ ∀ m ∈ ps, (∀ p ∈ ps, leP m p) → Q (.val (tIP m)) γ
  | _ => False
instance : VC K B E (rMinP K) vMinP where
  run := fun {as γ σ G H vs rs Q Qv Xv} S r1 h k _ => by
    obtain ⟨v, t, rfl, z, h⟩ := look1_ok S r1 h
    split at h
    · obtain ⟨ps, rfl, hne, h⟩ := h
      obtain ⟨a, acc, rfl, e, rp⟩ := lst_any S z
      obtain ⟨zs, rfl, rfl, hz⟩ := pairs_inv rp
      refine ⟨a, zs, rfl, SqL.of e, by simpa using hne, fun z hm => ?_, fun z hm best => ?_⟩
      · have r := hz z hm
        obtain ⟨v, p⟩ := z
        have r : Rp K G v (.tup [.int p.1, .int p.2]) := r
        cases r with | tup s1 s2 =>
        cases s2 with | cons a1 s2 =>
        cases s2 with | cons a2 s2 =>
        cases s2
        cases a1
        cases a2
        exact ⟨_, rfl, SqT.same s1.t S.vw⟩
      · refine kval k S (hz z hm) (h z.2 (List.mem_map.mpr ⟨z, hm, rfl⟩) fun p hp => ?_)
        obtain ⟨y, hy, rfl⟩ := List.mem_map.mp hp
        exact best y hy
    · exact h.elim
end
end VL
set_option Elab.async false
set_option linter.all false
set_option maxRecDepth 100000
set_option maxHeartbeats 4000000
/-! a generator def's body: if, for -/
namespace GenF
open PySem PySem.Spec PyProof.Rows L2 XR GenW
section
variable {X : Cx}
def tGIf (c : TT) (ta tb : TGn) : TGn := fun D ys σ H => c σ H fun b H1 => if b = true then ta D ys σ H1 else tb D ys σ H1
theorem gs_if {test : Expr} {body orelse : List Stmt} {pos : Pos} {tc : TT} {ta tb : TGn} (hc : PT X test tc) (ha : GSs X body ta) (hb : GSs X orelse tb) : GS X (.If test body orelse pos) (tGIf tc ta tb) := by
  refine ⟨fun A S ip R n ys s₀ c fs K J gd lv s σ H D g hn k hI ht => ?_⟩
  obtain ⟨acc, cc, r, I⟩ := hI
  rw [exec_If]
  refine seg_bind_wrap (wpAny_standAt ?_)
  refine seg_bind_wrap ?_
  rw [g.over]
  refine wpAny_mono (hc.run _ s σ H _ I ht) (fun b s' hb' => ?_) fun x s' hx => k.exc n s₀ x s' hx
  obtain ⟨H2, I2, q2⟩ := hb'
  cases b with
  | true =>
    rw [if_pos rfl] at q2 ⊢
    exact ha.run A S ip R n ys s₀ c fs K J gd lv s' σ H2 D g hn k ⟨acc, cc, r, I2⟩ q2
  | false =>
    rw [if_neg Bool.false_ne_true] at q2 ⊢
    exact hb.run A S ip R n ys s₀ c fs K J gd lv s' σ H2 D g hn k ⟨acc, cc, r, I2⟩ q2
def tGFor (wi : TI) (g : TG) (tb : TGn) : TGn := fun D ys σ H => wi σ H fun J H1 => ∃ W : Nat → Nat → List V → L2.St → Hp → Prop, (∃ m, W 0 m ys σ H1) ∧ ∀ i m ys σ H, W i m ys σ H →
  (J.stop i H ∧ D.nx ys σ H) ∨ (J.go i H ∧ ∃ N : List V → L2.St → Hp → Prop, (∀ ys' σ' H', N ys' σ' H' → ∃ m', m' < m ∧ W (i + 1) m' ys' σ' H') ∧ ∀ x H', J.yld i H x H' → g x σ H' fun σ2 H2 => tb { D with nx := N, ct := N, bk := D.nx } ys σ2 H2)
theorem gs_for {tg iter : Expr} {body : List Stmt} {wi : TI} {g : TG} {tb : TGn} {pos : Pos} (hp : PassesOwn (model X.prog X.w) X.A X.env X.xe) (hc : X.calm = true) (hi : PI X tg iter wi) (hg : PG X tg g) (hb : GSs X body tb)
    (hs : ∀ x, foldedSetIterable iter X.env x = pure x := by intro _; rfl) : GS X (.For tg iter body [] pos) (tGFor wi g tb) := by
  refine ⟨fun A S ip R n ys s₀ c fs K J gd lv s σ H D gc hn k hI ht => ?_⟩
  obtain ⟨acc, cc, r, I⟩ := hI
  rw [exec_For]
  refine seg_bind_wrap (wpAny_standAt ?_)
  refine seg_bind_wrap ?_
  rw [gc.over]
  refine wpAny_mono (hi.run _ s σ H _ I ht) (fun v s1 h1 => ?_) fun x s' hx => k.exc n s₀ x s' hx
  refine seg_bind_wrap (wpAny_of_eq (hs v) ?_)
  refine seg_bind_wrap (wpAny_standAt ?_)
  refine seg_bind_wrap (wpAny_holding ?_)
  rw [gc.over]
  refine wpAny_mono h1 (fun itv s2 h2 => ?_) fun x s' hx => k.exc n s₀ x s' hx
  obtain ⟨it, fp, tn, JJ, H2, rfl, I2, T, st2, f2, W, ⟨m0, w0⟩, turn⟩ := h2
  refine seg_call fun p => ?_
  have gl := fun (kk : Result → Sem PySem.Fin) => gc_loop (k := kk) (c' := .forLoop tg (.ref it) body [] X.env) (l := lv []) (kp := []) (p := p) gc rfl rfl
  have stat : ∀ {acc' : Array Value} {c' : Nat} {H' : Hp}, (∀ b ∈ fp, H' b = none) → ∀ b ∈ fp, FpOk X ((S, lstObj acc' c') :: ip) H' b := fun {acc' c' H'} hn b hb => by
    obtain ⟨_, f1, f3, f4, f5, f6⟩ := f2 b hb
    refine ⟨hn b hb, f1, f3, f4, f5, fun q hq => ?_⟩
    rcases List.mem_append.mp hq with hq | hq
    · exact f6 q (List.mem_append_left _ hq)
    · rcases List.mem_cons.mp hq with rfl | hq
      · exact f6 (S, lstObj acc cc) (List.mem_append_right _ List.mem_cons_self)
      · exact f6 q (List.mem_append_right _ (List.mem_cons_of_mem _ hq))
  have loop : ∀ (m i n : Nat) (ys : List V) (s₀ s : Shared) (σ : L2.St) (H : Hp), n + ys.length = sizeLine → W i m ys σ H → GI X S ip ys σ H s → tn i s.heap → (∀ b ∈ fp, H b = none) →
      Seg (model X.prog X.w) A R (GY X S) n s₀ (.forLoop tg (.ref it) body [] X.env) ((model X.prog X.w).den (.forLoop tg (.ref it) body [] X.env))
        (.ret (fun r => ((match r with | .ok f => (.pure f : Sem Flow) | .error e => .raise e).onRaise (cameBack X.env)).wrap K J gd lv) none (gd false) (lv []) c p [] :: fs) s := by
    intro m
    induction m using Nat.strongRecOn with
    | ind m ih =>
      intro i n ys s₀ s σ H hn w hI st fr
      have ee : ∀ (n : Nat) (s₀ : Shared) (x : Value) (s' : Shared), X.xe x s' → Seg (model X.prog X.w) A R (GY X S) n s₀ (.forLoop tg (.ref it) body [] X.env)
          ((do noteFrame x X.env; theTreesLotGoes x : Sem Unit).wrap (fun _ => .raise x) .raise id id)
          (.ret (fun r => ((match r with | .ok f => (.pure f : Sem Flow) | .error e => .raise e).onRaise (cameBack X.env)).wrap K J gd lv) none (gd false) (lv []) c p [] :: fs) s' := fun n s₀ x s' hx => by
        refine seg_wrap ?_
        rw [(gl _).over]
        refine wpAny_bind (wpAny_mono (hp x s' hx) (fun _ s'' hcb => wpAny_theTreesLotGoes ?_) fun y s'' hcb => ?_)
        · exact seg_leaf (.error x) (seg_cameBack gc k hcb)
        · exact seg_leaf (.error y) (seg_cameBack gc k hcb)
      show Seg _ A R (GY X S) n s₀ _ ((forTurn tg (.ref it) body [] X.env).onRaise (fun x => do noteFrame x X.env; theTreesLotGoes x)) _ s
      rw [Sem.onRaise_eq_wrap]
      unfold forTurn
      obtain ⟨acc, cc, r, I⟩ := hI
      refine seg_bind_wrap (wpAny_standAt ?_)
      refine seg_bind_wrap (wpAny_onRaise ?_)
      rw [(gl _).over]
      have ex : ∀ (n : Nat) (s₀ : Shared) (x : Value) (s' : Shared), X.xe x s' → Seg (model X.prog X.w) A R (GY X S) n s₀ (.forLoop tg (.ref it) body [] X.env)
          ((do noteFrame x X.env; theTreesLotGoes x : Sem Unit).bind fun _ => .raise x)
          (.ret (fun r => ((match r with | .ok f => (.pure f : Sem Flow) | .error e => .raise e).onRaise (cameBack X.env)).wrap K J gd lv) none (gd false) (lv []) c p [] :: fs) s' := fun n s₀ x s' hx => by
        rw [Sem.bind_eq_wrap]
        exact ee n s₀ x s' hx
      rcases turn i m ys σ H w with ⟨stop, qn⟩ | ⟨go, N, hN, step⟩
      · refine wpAny_mono (T.done X rfl rfl rfl hc i _ s σ H X.xe I (stat fr) st stop) (fun rr s4 ⟨hr, I4⟩ => ?_) fun x s' hx => wpAny_standAt (ex n s₀ x s' hx)
        subst hr
        show Seg _ A R (GY X S) n s₀ _ (.pure (.again (.block [] X.env))) _ s4
        refine seg_again rfl ?_
        exact seg_leaf (.ok .next) (k.ok n ys s₀ s4 .next hn ⟨σ, H, ⟨acc, cc, r, I4⟩, qn⟩)
      · refine wpAny_mono (T.item X rfl rfl rfl hc i _ s σ H X.xe I (stat fr) st go) (fun rr s4 ⟨u, hr, h4⟩ => ?_) fun x s' hx => wpAny_standAt (ex n s₀ x s' hx)
        subst hr
        dsimp only
        refine seg_bind_wrap ?_
        rw [(gl _).over]
        refine wpAny_mono h4 (fun _ s5 ⟨x, H5, I5, r5, y5, st5, fr5⟩ => ?_) fun x s' hx => ex n s₀ x s' hx
        have I5' := I5.pinned (stat fr5) (T.obj _ _ st5)
        refine seg_bind_wrap ?_
        rw [(gl _).over]
        refine wpAny_mono (hg.run _ s5 σ H5 x u _ I5' r5 (step x H5 y5)) (fun _ s6 ⟨σ6, H6, I6, q6⟩ => ?_) fun x s' hx => ex n s₀ x s' hx
        rw [Sem.bind_eq_wrap', Sem.wrap_wrap]
        have fpS : ∀ b ∈ fp, b ≠ S := fun b hb z => by
          have := (f2 b hb).2.2.2.2.2 (S, lstObj _ _) (List.mem_append_right _ List.mem_cons_self)
          exact this z.symm
        have gc2 : GC X S (ip ++ pinsAt fp s5.heap) A (.forLoop tg (.ref it) body [] X.env) (.ret (fun r => ((match r with | .ok f => (.pure f : Sem Flow) | .error e => .raise e).onRaise (cameBack X.env)).wrap K J gd lv) none (gd false) (lv []) c p [] :: fs) id :=
          { gl _ with ip := fun q hq => (List.mem_append.mp hq).elim (gc.ip q) fun z => fpS q.1 (of_pinsAt z).1 }
        have again : ∀ {n' : Nat} {ys' : List V} {s₀' s7 : Shared} {σ7 : L2.St} {H7 : Hp}, n' + ys'.length = sizeLine → GI X S (ip ++ pinsAt fp s5.heap) ys' σ7 H7 s7 → N ys' σ7 H7 →
            Seg (model X.prog X.w) A R (GY X S) n' s₀' (.forLoop tg (.ref it) body [] X.env) (.pure (.again (.forLoop tg (.ref it) body [] X.env))) (.ret (fun r => ((match r with | .ok f => (.pure f : Sem Flow) | .error e => .raise e).onRaise (cameBack X.env)).wrap K J gd lv) none (gd false) (lv []) c p [] :: fs) s7 := fun {n' ys' s₀' s7 σ7 H7} hn' hG n7 => by
          obtain ⟨m', hm, w7⟩ := hN ys' σ7 H7 n7
          obtain ⟨acc7, c7, r7, I7⟩ := hG
          have I7u : L2.Inv X ((S, lstObj acc7 c7) :: ip) σ7 H7 s7 := L2.Inv.unpinned (pl := pinsAt fp s5.heap) I7
          have pin : ∀ b ∈ fp, ∀ o, s5.heap.get? b = some o → s7.heap.get? b = some o ∧ H7 b = none := fun b hb o e => by
            have q := I7.pin (b, o) (List.mem_append_right _ (List.mem_cons_of_mem _ (List.mem_append_right _ (mem_pinsAt hb e))))
            exact ⟨q.1, q.2.1⟩
          refine seg_again rfl (ih m' hm (i + 1) n' ys' s₀' s7 σ7 H7 hn' w7 ⟨acc7, c7, r7, I7u⟩ (T.keep _ _ _ st5 fun b hb o e => (pin b hb o e).1) fun b hb => ?_)
          obtain ⟨o, e, _⟩ := T.obj _ _ st5 b hb
          exact (pin b hb o e).2
        have un : ∀ {ys' : List V} {s7 : Shared} {σ7 : L2.St} {H7 : Hp}, GI X S (ip ++ pinsAt fp s5.heap) ys' σ7 H7 s7 → GI X S ip ys' σ7 H7 s7 := fun {ys' s7 σ7 H7} hG => by
          obtain ⟨acc7, c7, r7, I7⟩ := hG
          exact ⟨acc7, c7, r7, L2.Inv.unpinned (pl := pinsAt fp s5.heap) I7⟩
        refine hb.run A S (ip ++ pinsAt fp s5.heap) R n ys s₀ _ _ _ _ id id s6 σ6 H6 { D with nx := N, ct := N, bk := D.nx } gc2 hn ⟨fun n' ys' s₀' s7 f hn' hs => ?_, fun n' s₀' x s7 hx => ex n' s₀' x s7 hx⟩ ⟨acc, cc, r, I6⟩ q6
        cases f with
        | next => obtain ⟨σ7, H7, I7, n7⟩ := hs; exact again hn' I7 n7
        | cont => obtain ⟨σ7, H7, I7, n7⟩ := hs; exact again hn' I7 n7
        | brk => obtain ⟨σ7, H7, I7, q7⟩ := hs; exact seg_leaf (.ok .next) (k.ok n' ys' s₀' s7 .next hn' ⟨σ7, H7, un I7, q7⟩)
        | ret v => obtain ⟨x7, σ7, H7, I7, r7, q7⟩ := hs; exact seg_leaf (.ok (.ret v)) (k.ok n' ys' s₀' s7 (.ret v) hn' ⟨x7, σ7, H7, un I7, r7, q7⟩)
  exact loop m0 0 n ys s₀ s2 σ H2 hn w0 ⟨acc, cc, r, I2⟩ st2 fun b hb => (f2 b hb).1
end
end GenF
set_option Elab.async false
set_option linter.all false
set_option maxRecDepth 100000
set_option maxHeartbeats 4000000
/-! generators over values: a body's reading, its promise, list(f(..)) -/
namespace VL
open PySem PySem.Spec PyProof.Rows L2 XR GenF
/-- what is wanted behind a statement of a generator; the list: what is out so far -/
structure GV where
  nx : List T → Env → Prop
  rt : List T → RQ
  bk : List T → Env → Prop
  ct : List T → Env → Prop
  ex : XQ
abbrev YW := Env → List T → GV → Prop
def KontY (K : PySem.W.Frag) (B : Bs) (as : List Addr) (G : Hp) (Q : List V → L2.St → Hp → Prop) (Qv : List T → Env → Prop) : Prop :=
  ∀ (ts : List T) (vs : List V) (γ' : Env) (as' : List Addr) (σ' : L2.St) (G' H' : Hp), as <+: as' → Same G G' → StR K B as' γ' σ' G' H' → RpAll K G' vs ts → Qv ts γ' → Q vs σ' H'
structure KontG (K : PySem.W.Frag) (B : Bs) (E : L2.St → XK) (as : List Addr) (G : Hp) (D : GEnds) (Dv : GV) : Prop where
  nx : KontY K B as G D.nx Dv.nx
  bk : KontY K B as G D.bk Dv.bk
  ct : KontY K B as G D.ct Dv.ct
  rt : ∀ (ts : List T) (vs : List V) (r : Rf) (γ' : Env) (as' : List Addr) (v : V) (σ' : L2.St) (G' H' : Hp), as <+: as' → Same G G' → StR K B as' γ' σ' G' H' → RpAll K G' vs ts → RR K B.ex as' G' r v → Dv.rt ts r γ' → D.rt vs v H'
  ex : ∀ (σ' : L2.St), KontX K B as σ' G (E σ') Dv.ex
theorem KontY.mono {K : PySem.W.Frag} {B : Bs} {as as1 : List Addr} {G G1 : Hp} {Q : List V → L2.St → Hp → Prop} {Qv : List T → Env → Prop} (k : KontY K B as G Q Qv) (p : as <+: as1) (g : Same G G1) : KontY K B as1 G1 Q Qv :=
  fun ts vs γ' as' σ' G' H' p' g' S r q => k ts vs γ' as' σ' G' H' (p.trans p') (g.trans g') S r q
theorem KontG.mono {K : PySem.W.Frag} {B : Bs} {E : L2.St → XK} {as as1 : List Addr} {G G1 : Hp} {D : GEnds} {Dv : GV} (k : KontG K B E as G D Dv) (p : as <+: as1) (g : Same G G1) : KontG K B E as1 G1 D Dv :=
  ⟨k.nx.mono p g, k.bk.mono p g, k.ct.mono p g, fun ts vs r γ' as' v σ' G' H' p' g' S rp rr q => k.rt ts vs r γ' as' v σ' G' H' (p.trans p') (g.trans g') S rp rr q, fun σ => (k.ex σ).mono p g⟩
class VY (K : PySem.W.Frag) (B : Bs) (E : L2.St → XK) (t : TGn) (w : outParam YW) : Prop where
  run : ∀ {as : List Addr} {γ : Env} {σ : L2.St} {G H : Hp} {ts : List T} {vs : List V} {D : GEnds} {Dv : GV}, StR K B as γ σ G H → RpAll K G vs ts → w γ ts Dv → KontG K B E as G D Dv → t D vs σ H
/-- a loop of a generator -/
structure ForG (src : Src) (n0 : Nat) (γ1 : Env) (ts1 : List T) (step : T → Env → List T → (List T → Env → Prop) → Prop) (done : List T → Env → Prop) : Prop where
  ex : ∃ I : Nat → Env → List T → Prop, (∃ γ2, Le n0 γ1 γ2 ∧ I 0 γ2 ts1) ∧ (∀ i γ2 ts, I i γ2 ts → src.on γ2) ∧
    (∀ i t γ2 ts, src.ts[i]? = some t → I i γ2 ts → step t γ2 ts fun ts' γ4 => ∃ γ5, Le n0 γ4 γ5 ∧ I (i + 1) γ5 ts') ∧ ∀ γ2 ts, I src.ts.length γ2 ts → done ts γ2
section
variable {K : PySem.W.Frag} {B : Bs} {E : L2.St → XK}
def yPlain (w : VSW) : YW := fun γ ts D => w γ ⟨D.nx ts, D.rt ts, D.bk ts, D.ct ts, D.ex⟩
theorem RpAll.monoS {G G' : Hp} (g : Same G G') : ∀ {vs : List V} {ts : List T}, RpAll K G vs ts → RpAll K G' vs ts
  | _, _, .nil => .nil
  | _, _, .cons a b => .cons (Rp.mono g a) (RpAll.monoS g b)
instance {t : TS} {w : VSW} [h : VS K B E t w] : VY K B E (tPlain t) (yPlain w) where
  run := fun {as γ σ G H ts vs D Dv} S rp q k => by
    refine h.run (D := D.at vs) S q ⟨fun γ' as' σ' G' H' p g S' z => k.nx ts vs γ' as' σ' G' H' p g S' (rp.monoS g) z, fun γ' as' σ' G' H' p g S' z => k.bk ts vs γ' as' σ' G' H' p g S' (rp.monoS g) z, fun γ' as' σ' G' H' p g S' z => k.ct ts vs γ' as' σ' G' H' p g S' (rp.monoS g) z, fun σ' r γ' as' v G' H' p g S' rr z => k.rt ts vs r γ' as' v σ' G' H' p g S' (rp.monoS g) rr z, k.ex⟩
def yNil : YW := fun γ ts D => D.nx ts γ
instance : VY K B E tG0 yNil where
  run := fun {as γ σ G H ts vs D Dv} S rp q k => k.nx ts vs γ as σ G H (List.prefix_refl _) (Same.refl _) S rp q
def ySeq (wt wu : YW) : YW := fun γ ts D => wt γ ts { D with nx := fun ts1 γ1 => wu γ1 ts1 D }
instance {t u : TGn} {wt wu : YW} [ht : VY K B E t wt] [hu : VY K B E u wu] : VY K B E (tGThen t u) (ySeq wt wu) where
  run := fun {as γ σ G H ts vs D Dv} S rp q k => ht.run S rp q ⟨fun ts1 vs1 γ' as' σ' G' H' p g S' rp1 z => hu.run S' rp1 z (k.mono p g), k.bk, k.ct, k.rt, k.ex⟩
def yIf (wc : Env → (Bool → Env → Prop) → XQ → Prop) (wa wb : YW) : YW := fun γ ts D => wc γ (fun c γ1 => br c (wa γ1 ts D) (wb γ1 ts D)) D.ex
instance {c : TT} {ta tb : TGn} {wc : Env → (Bool → Env → Prop) → XQ → Prop} {wa wb : YW} [hc : VT K B E c wc] [ha : VY K B E ta wa] [hb : VY K B E tb wb] : VY K B E (tGIf c ta tb) (yIf wc wa wb) where
  run := fun {as γ σ G H ts vs D Dv} S rp q k => by
    refine hc.run S q (fun b γ3 as3 b' G3 H3 p3 g3 S3 e q3 => ?_) (k.ex σ)
    cases e
    cases b with
    | true => rw [if_pos rfl]; exact ha.run S3 (rp.monoS g3) q3 (k.mono p3 g3)
    | false => rw [if_neg Bool.false_ne_true]; exact hb.run S3 (rp.monoS g3) q3 (k.mono p3 g3)
def yYield (we : VW) : YW := fun γ ts D => ts.length < 1000000 ∧ we γ (fun r γ1 => toT r γ1 fun t γ2 => D.nx (ts ++ [t]) γ2) D.ex
theorem RpAll.snocS {G : Hp} {v : V} {t : T} (r : Rp K G v t) : ∀ {vs : List V} {ts : List T}, RpAll K G vs ts → RpAll K G (vs ++ [v]) (ts ++ [t])
  | _, _, .nil => .cons r .nil
  | _, _, .cons a b => .cons a (RpAll.snocS r b)
instance {te : TE} {we : VW} [he : VE K B E te we] : VY K B E (tGYield te) (yYield we) where
  run := fun {as γ σ G H ts vs D Dv} S rp q k => by
    refine ⟨by rw [rp.length, sizeLine_eq]; have := q.1; omega, ?_⟩
    refine he.run S q.2 (fun r γ1 as1 v G1 H1 p1 g1 S1 rr1 q1 => ?_) (k.ex σ)
    obtain ⟨t', γ2, G2, g2, S2, rp2, q2⟩ := toT_ok S1 rr1 q1
    exact k.nx (ts ++ [t']) (vs ++ [v]) γ2 as1 σ G2 H1 p1 (g1.trans g2) S2 (RpAll.snocS rp2 (rp.monoS (g1.trans g2))) q2
def yFor (wi : Env → (Src → Env → Prop) → XQ → Prop) (wg : Rf → Env → (Env → Prop) → XQ → Prop) (wb : YW) : YW := fun γ ts D => wi γ (fun src γ1 =>
  ForG src γ1.mem.length γ1 ts (fun t γ2 ts2 N => wg (.val t) γ2 (fun γ3 => wb γ3 ts2 { D with nx := N, ct := N, bk := D.nx }) D.ex) D.nx) D.ex
instance {wi : TI} {g : TG} {tb : TGn} {vi : Env → (Src → Env → Prop) → XQ → Prop} {vg : Rf → Env → (Env → Prop) → XQ → Prop} {is : List Nat} {vb : YW} [hi : VI K B E wi vi] [hg : VG K B E g vg is] [hb : VY K B E tb vb] : VY K B E (tGFor wi g tb) (yFor vi vg vb) where
  run := fun {as γ σ G H ts vs D Dv} S rp h k => by
    refine hi.run S h (fun src γ1 as1 G1 H1 J p1 g1 S1 ok q1 => ?_) (k.ex σ)
    obtain ⟨⟨I, ⟨γ0, le0, i0⟩, on, step, done⟩⟩ := q1
    obtain ⟨as0, G0, pp0, gg0, SS0⟩ := StR.le le0 S1 (List.prefix_refl _) S1.mlen
    refine ⟨fun i m ws σ' H' => m = src.ts.length - i ∧ i ≤ src.ts.length ∧ ∃ as' γ' G' us, as1 <+: as' ∧ Same G1 G' ∧ StR K B as' γ' σ' G' H' ∧ RpAll K G' ws us ∧ I i γ' us, ⟨_, rfl, Nat.zero_le _, as0, γ0, G0, ts, pp0, gg0, SS0, rp.monoS (g1.trans gg0), i0⟩, ?_⟩
    rintro i m ws σ' H' ⟨rfl, hi', as', γ', G', us, p', g', S', rp', inv⟩
    obtain ⟨go, stop, yld⟩ := ok p' g' S' (on i γ' us inv)
    by_cases hlt : i < src.ts.length
    · refine .inr ⟨go i hlt, fun ws'' σ'' H'' => i + 1 ≤ src.ts.length ∧ ∃ as'' γ'' G'' us'', as1 <+: as'' ∧ Same G1 G'' ∧ StR K B as'' γ'' σ'' G'' H'' ∧ RpAll K G'' ws'' us'' ∧ I (i + 1) γ'' us'', fun ws'' σ'' H'' q => ⟨_, by omega, rfl, q.1, q.2⟩, fun x H'' hy => ?_⟩
      obtain ⟨G2, t, et, g2, S2, rx⟩ := yld i x H'' hlt hy
      have k2 : KontG K B E as' G2 D Dv := (k.mono p1 g1).mono p' (g'.trans g2)
      refine hg.run S2 (r := .val t) rx (step i t γ' us et inv) (fun γ3 as3 σ3 G3 H3 p3 g3 S3 _ q3 => ?_) (k2.ex σ')
      have k3 := k2.mono p3 g3
      have again : KontY K B as3 G3 (fun ws'' σ'' H'' => i + 1 ≤ src.ts.length ∧ ∃ as'' γ'' G'' us'', as1 <+: as'' ∧ Same G1 G'' ∧ StR K B as'' γ'' σ'' G'' H'' ∧ RpAll K G'' ws'' us'' ∧ I (i + 1) γ'' us'') (fun ts' γ4 => ∃ γ5, Le γ1.mem.length γ4 γ5 ∧ I (i + 1) γ5 ts') := by
        rintro ts4 vs4 γ4 as4 σ4 G4 H4 p4 g4 S4 rp4 ⟨γ5, le5, i5⟩
        obtain ⟨as5, G5, p5, g5, S5⟩ := StR.le le5 S4 ((p'.trans p3).trans p4) S1.mlen
        exact ⟨hlt, as5, γ5, G5, ts4, p5, (((g'.trans g2).trans g3).trans g4).trans g5, S5, rp4.monoS g5, i5⟩
      exact hb.run S3 (rp'.monoS (g2.trans g3)) q3 ⟨again, k3.nx, again, k3.rt, k3.ex⟩
    · have e : i = src.ts.length := by omega
      subst e
      exact .inl ⟨stop, k.nx us ws _ _ _ _ _ (p1.trans p') (g1.trans g') S' rp' (done γ' us inv)⟩
end
end VL
set_option Elab.async false
set_option linter.all false
set_option maxRecDepth 100000
set_option maxHeartbeats 4000000
/-! generators over values: a def's promise, list(f(..)) -/
namespace VL
open PySem PySem.Spec PyProof.Rows L2 XR GenF GenW
abbrev VSpG := List T → (List T → Prop) → (VErr → Prop) → Prop
/-- the promise of a generator def: nothing of its arguments changes -/
def vspG (K : PySem.W.Frag) (n : Nat) (fv : VSpG) : SpG := fun vs H cont E => ∃ (G : Hp) (ts : List T) (Qv : List T → Prop) (Xv : VErr → Prop), Same G H ∧ vs.length = n ∧ RpAll K G vs ts ∧ fv ts Qv Xv ∧
  (∀ (os : List T) (ws : List V) (G' H' : Hp), Fin K G H [] G' H' [] → RpAll K G' ws os → Qv os → cont ws H') ∧ (∀ (e : VErr) (d : Option Addr) (G' H' : Hp), Fin K G H [] G' H' [] → ErrF K G' d e.2 → Xv e → E (.ref e.1) d H')
def endsG (Qv : List T → Prop) (Xv : VErr → Prop) : GV := ⟨fun ts γ => outsQ γ fun _ => Qv ts, fun ts r γ => r = .val .non ∧ outsQ γ fun _ => Qv ts, fun _ _ => False, fun _ _ => False, fun e γ => outsQ γ fun _ => Xv e⟩
theorem fin_nil {K : PySem.W.Frag} {G H G' H' : Hp} {o : List T} (f : Fin K G H [] G' H' o) : Fin K G H [] G' H' [] := ⟨f.gg, f.vw, f.hh, f.out, .nil⟩
section
variable {P : Program} {w : World} {K : PySem.W.Frag} {mg : Str → Option Value} {base : Heap}
theorem okG {x qual : Str} {st : Stmt} {f : Addr} {fd : FuncData} {N ps : List Str} {k n : Nat} {fv : VSpG} (F : Fun K x qual st f fd) (S : GScope N ps (defScope st)) (hk : n = ps.length) (hN : ps.length ≤ N.length)
    (body : ∀ (cdv : Value) (A : Around) (outer : List PySem.Env) (s : Shared) (H : Hp) (E : XK) (pn : List (Addr × Obj)), Room k (A.deeper (envOfC qual (defScope st) s.heap.objs.size f cdv)) →
      ∃ t, GSs (gcxOf P w K mg base N qual (defScope st) f cdv A outer s H E pn) (defBody st) t ∧ ∃ wv, (∀ B : Bs, VY K B (fun _ => E) t wv) ∧ ∀ (ts : List T) (Qv : List T → Prop) (Xv : VErr → Prop), fv ts Qv Xv → wv (env0 (falses n) ts (N.length - ps.length)) [] (endsG Qv Xv)) :
    GFn P w K mg base (k + 1) f fd ps (vspG K n fv) := by
  obtain ⟨oc, od, kV, doc, pm, an, cdv, ct, osl, rfl, lk, hcd⟩ := F.ex
  refine gfn_of lk hcd S (fun vs H Q E h => ?_) fun A outer s H vs Q E pn hr hsp => ?_
  · obtain ⟨G, ts, Qv, Xv, _, hl, _⟩ := h
    exact hl.trans hk
  · obtain ⟨t, hp, wv, hv, go⟩ := body cdv A outer s H E pn hr
    obtain ⟨G, ts, Qv, Xv, vw, hl, rp, hf, kr, kx⟩ := hsp
    refine ⟨t, hp, ?_⟩
    have ar : ArgsR K G H (falses n) vs ts := by rw [← hl]; exact argsF rp
    have io : ioA (falses n) vs = [] := by rw [← hl]; exact ioF vs
    have S0 := start_ok (N := N) vw ar (by rw [io]; exact .nil) (by omega)
    rw [io] at S0
    have q := go ts Qv Xv hf
    rw [← hk, ← hl] at q
    refine (hv _).run (vs := []) S0 .nil (by rw [hl] at q ⊢; exact q) ⟨fun os ws γ' as' σ' G' H' _ _ S' rp' z => ?_, (by intro _ _ _ _ _ _ _ _ _ _ _ z; exact (show False from z).elim), (by intro _ _ _ _ _ _ _ _ _ _ _ z; exact (show False from z).elim), fun os ws r γ' as' v σ' G' H' _ _ S' rp' rr z => ?_, fun σ' e γ' as' d G' H' _ _ S' er z => ?_⟩
    · obtain ⟨o, f, z⟩ := fin_of S' z
      exact kr os ws G' H' (fin_nil f) rp' z
    · obtain ⟨rfl, z⟩ := z
      obtain ⟨o, f, z⟩ := fin_of S' z
      have rn : Rp K G' v .non := rr
      cases rn
      exact ⟨rfl, kr os ws G' H' (fin_nil f) rp' z⟩
    · obtain ⟨o, f, z⟩ := fin_of S' z
      exact kx e d G' H' (fin_nil f) er z
end
section
variable {K : PySem.W.Frag} {B : Bs} {E : L2.St → XK}
def vListG (n : Nat) (fv : VSpG) (wa : Env → (List Rf → Env → Prop) → XQ → Prop) : VW := fun γ Q X => wa γ (fun rs γ1 => rs.length = n ∧ toTs rs γ1 fun ts γ2 => fv ts (fun os => γ2.new (.lst os) Q) (fun _ => False)) X
instance {n : Nat} {fv : VSpG} {t : TA} {wa : Env → (List Rf → Env → Prop) → XQ → Prop} [ha : VA K B E t wa] : VE K B E (tListG (tCallG (vspG K n fv) [] E0 t)) (vListG n fv wa) where
  run := fun {as γ σ G H Q Qv Xv} S h k kx => by
    refine ha.run S h (fun rs γ1 as1 vs G1 H1 p1 g1 S1 rr1 q1 => ?_) kx
    obtain ⟨ts, γ2, G2, g2, S2, rp, q2⟩ := toTs_ok S1 rr1 q1.2
    refine ⟨G2, ts, _, _, S2.vw, ?_, ?_, q2, fun os ws G' H' f rp' z => ?_, fun _ _ _ _ _ _ z => z.elim⟩
    · rw [List.append_nil, ← rrs_len rr1]; exact q1.1
    · rw [List.append_nil]; exact rp
    · have S3 := S2.called .nil List.nodup_nil f
      intro p hp
      exact knew (((k.mono p1 g1).mono (List.prefix_refl _) g2).mono (List.prefix_refl _) f.gg) S3 rp' z hp
end
theorem noStop0 {K : PySem.W.Frag} : NoStop K E0 := fun _ _ _ h => h.elim
/-! ### loops of a generator -/
section
variable {n0 : Nat} {γ1 : Env} {ts1 : List T} {step : T → Env → List T → (List T → Env → Prop) → Prop} {done : List T → Env → Prop} {β α : Type} {xs : List α} {f : α → T}
@[irreducible] def NxG (n0 : Nat) (E : β → Env) (P : β → List T → Prop) (ts : List T) (γ4 : Env) : Prop := ∃ γ5, Le n0 γ4 γ5 ∧ ∃ s, γ5 = E s ∧ P s ts
theorem NxG.mk {E : β → Env} {P : β → List T → Prop} {ts : List T} {γ4 : Env} (s : β) (l : Le n0 γ4 (E s)) (p : P s ts) : NxG n0 E P ts γ4 := by
  unfold NxG
  exact ⟨E s, l, s, rfl, p⟩
theorem forG_ts {ts : List T} (F : Env → β → Env) (P : Nat → β → List T → Prop) (h0 : NxG n0 (F γ1) (P 0) ts1 γ1) (hs : ∀ i t s us, ts[i]? = some t → P i s us → step t (F γ1 s) us (NxG n0 (F γ1) (P (i + 1)))) (hd : ∀ s us, P ts.length s us → done us (F γ1 s)) : ForG (.fix ts) n0 γ1 ts1 step done := by
  unfold NxG at h0 hs
  refine ⟨fun i γ us => ∃ s, γ = F γ1 s ∧ P i s us, h0, fun _ _ _ _ => trivial, fun i t γ2 us e h => ?_, fun γ2 us h => ?_⟩
  · obtain ⟨s, rfl, p⟩ := h
    exact hs i t s us e p
  · obtain ⟨s, rfl, p⟩ := h
    exact hd s us p
theorem forG_map (F : Env → β → Env) (P : Nat → β → List T → Prop) (h0 : NxG n0 (F γ1) (P 0) ts1 γ1) (hs : ∀ i x s us, xs[i]? = some x → P i s us → step (f x) (F γ1 s) us (NxG n0 (F γ1) (P (i + 1)))) (hd : ∀ s us, P xs.length s us → done us (F γ1 s)) : ForG (.fix (xs.map f)) n0 γ1 ts1 step done := by
  refine forG_ts F P h0 (fun i t s us e p => ?_) fun s us p => hd s us (by rw [List.length_map] at p; exact p)
  rw [List.getElem?_map] at e
  cases ex : xs[i]? with
  | none => rw [ex] at e; cases e
  | some x => rw [ex] at e; cases e; exact hs i x s us ex p
theorem forG_rng {lo : Int} {n : Nat} (F : Env → β → Env) (P : Nat → β → List T → Prop) (h0 : NxG n0 (F γ1) (P 0) ts1 γ1) (hs : ∀ i s us, i < n → P i s us → step (.int (lo + (i : Nat))) (F γ1 s) us (NxG n0 (F γ1) (P (i + 1)))) (hd : ∀ s us, P n s us → done us (F γ1 s)) : ForG (.fix (rngT lo n)) n0 γ1 ts1 step done := by
  refine forG_ts F P h0 (fun i t s us e p => ?_) fun s us p => hd s us (by rw [rngT_len] at p; exact p)
  obtain ⟨h, rfl⟩ := rngT_at e
  exact hs i s us h p
end
end VL
set_option Elab.async false
set_option linter.all false
set_option maxRecDepth 100000
set_option maxHeartbeats 4000000
/-! min(x, default = d) of ints: over values -/
namespace VL
open PySem PySem.Spec PyProof.Rows L2 XR
theorem args_minD (a d : Value) : argsOk "min" ⟨[a], [(Str.ofString "default", d)]⟩ := by unfold argsOk; kernel_rfl
section
variable {prog : Program} {w : World} {A : Around} {R : Result → Shared → Prop} {J S : Addr} {fp wr : List Addr} {P : Nat → Value → Prop} {St : Nat → Heap → Prop} {h0 : Heap} {d : Value}
/-- nothing comes: the default -/
theorem minD_empty (W : Walks prog w A.in1 J fp wr 0 P St) (nf : S ∉ fp) {u : Shared} {c : Nat} (old : Old h0 wr S u.heap) (st : St 0 u.heap) (hS : u.heap.get? S = some { cls := .type "list", dict := none, data := .seq #[] c, slots := #[] })
    (fin : ∀ h1 tk, Old h0 wr S h1 → R (.ok (.ret d)) { u with heap := h1, toks := tk }) : codeAny (model prog w) A (.builtin "min.loop" ⟨[.ref J, .none, .ref S], [(Str.ofString "default", d)]⟩) R u := by
  refine codeAny_builtin F.entry_min_loop ?_; rw [Around.under_plainId F.plain_min_loop _]
  show wpAny _ A.in1 (seqItems? (.ref S) >>= _) _ _ u; refine wpAny_bind (wpAny_seqItems hS rfl ?_)
  show wpAny _ A.in1 (tryCatch (pyNext (.ref J)) _ >>= _) _ _ u
  refine wpAny_bind (wpAny_tryCatch (W.done u _ _ st fun h1 tk kp => ?_))
  refine wpAny_bind (wpAny_rule ?_)
  exact wpAny_pure (fin h1 tk fun b o b1 b2 e => kp b o b1 (old b o b1 b2 e))
end
section
variable {prog : Program} {w : World} {A : Around} {E : Value → Shared → Prop} {s : Shared}
theorem minD {l : Addr} {its : Array Value} {bt : Nat → Nat → Bool} {d : Value} {Q : Value → Shared → Prop} (hh : A.handled = none) (hl : s.heap.IsList l its)
    (cmp : ∀ i j x y (u : Shared) (Q : Value → Shared → Prop) (E : Value → Shared → Prop), (∀ b o, s.heap.get? b = some o → u.heap.get? b = some o) → its[i]? = some x → its[j]? = some y → Q (.bool (bt i j)) u → wpAny (model prog w) A.in1 (richCompare .Lt x y) Q E u)
    (fin0 : its.size = 0 → ∀ h1 tk, (∀ b o, s.heap.get? b = some o → h1.get? b = some o) → Q d { s with heap := h1, toks := tk })
    (fin : 0 < its.size → ∀ v h1 tk, its[argBest bt (its.size - 1)]? = some v → (∀ b o, s.heap.get? b = some o → h1.get? b = some o) → Q v { s with heap := h1, toks := tk }) : wpAny (model prog w) A (call (.builtin "min") [.ref l] [(Str.ofString "default", d)]) Q E s := by
  have ll : l < s.heap.objs.size := by obtain ⟨_, e, _⟩ := hl; exact Heap.lt_size e
  refine PyProof.Rows.kmk_tree F.kind_min F.plain_min F.entry_min (args_minD _ _) ?_; show wpAny _ A.in1 (Builtin.Builtins.bindParams "min" ["key", "default"] 0 ⟨[], [(Str.ofString "default", d)]⟩ >>= _) _ _ s
  refine wpAny_bind (wpAny_of_eq (a := [none, some d]) rfl ?_); refine wpAny_bind (wpAny_pure ?_)
  refine wpAny_bind (wpAny_pyIter_list hl ?_); refine wpAny_bind (wpAny_newObj_type ?_)
  have hl2 : (s.heap.push { cls := .type "list_iterator", data := .fields #[.ref l, .int 0 0] }).IsList l its := hl.push _
  have W := Walks.list (prog := prog) (w := w) (A := A.in1) hh s.heap.objs.size l (Nat.ne_of_lt ll) its
  have e0 : (s.heap.push { cls := .type "list_iterator", data := .fields #[.ref l, .int 0 0] }).objs.size = s.heap.objs.size + 1 := Heap.size_push ..
  have up : ∀ b o, s.heap.get? b = some o → ((s.heap.push { cls := .type "list_iterator", data := .fields #[.ref l, .int 0 0] }).push { cls := .type "list", data := .seq #[] }).get? b = some o := fun b o e => Heap.get?_push_of_some _ (Heap.get?_push_of_some _ e)
  rw [minH_name]
  have nf : s.heap.objs.size + 1 ∉ [s.heap.objs.size, l] := fun z => by
    rcases List.mem_cons.mp z with z | z
    · exact absurd z (Nat.succ_ne_self _)
    · exact absurd (List.mem_singleton.mp z).symm (Nat.ne_of_lt (Nat.lt_succ_of_lt ll))
  have cH : CmpH prog w A.in1 s.heap [s.heap.objs.size] (s.heap.objs.size + 1) (fun i v => its[i]? = some v) bt := fun i j x y u Q E old hx hy hq => by
    refine cmp i j x y u Q E (fun b o e => old b o (fun z => ?_) (fun z => ?_) e) hx hy hq
    · exact absurd (List.mem_singleton.mp z) (Nat.ne_of_lt (Heap.lt_size e))
    · exact absurd z (Nat.ne_of_lt (Nat.lt_succ_of_lt (Heap.lt_size e)))
  refine wpAny_pure ⟨plainId_quiet F.plain_min_loop _, ?_⟩
  have hS0 : ((s.heap.push { cls := .type "list_iterator", data := .fields #[.ref l, .int 0 0] }).push { cls := .type "list", data := .seq #[] }).get? (s.heap.objs.size + 1) = some { cls := .type "list", dict := none, data := .seq #[] 0, slots := #[] } := by
    rw [← e0]
    exact Heap.get?_push_size _ (show Obj.isFreed { cls := .type "list", data := .seq #[] } = false from rfl)
  have st0 := W.frame _ _ ((s.heap.push { cls := .type "list_iterator", data := .fields #[.ref l, .int 0 0] }).push { cls := .type "list", data := .seq #[] }) ⟨⟨_, Heap.get?_push_size _ rfl, rfl, rfl⟩, hl2⟩ fun b _ o e => Heap.get?_push_of_some _ e
  have back : ∀ {h1 : Heap}, Old s.heap [s.heap.objs.size] (s.heap.push { cls := .type "list_iterator", data := .fields #[.ref l, .int 0 0] }).objs.size h1 → ∀ b o, s.heap.get? b = some o → h1.get? b = some o := fun old b o e => old b o (fun z => absurd (List.mem_singleton.mp z) (Nat.ne_of_lt (Heap.lt_size e))) (fun z => absurd (z.trans e0) (Nat.ne_of_lt (Nat.lt_succ_of_lt (Heap.lt_size e)))) e
  rcases Nat.eq_zero_or_pos its.size with hn | hn
  · rw [hn] at W
    exact minD_empty (u := { s with heap := (s.heap.push { cls := .type "list_iterator", data := .fields #[.ref l, .int 0 0] }).push { cls := .type "list", data := .seq #[] } }) (c := 0) (h0 := s.heap) (fp := [s.heap.objs.size, l]) (S := (s.heap.push { cls := .type "list_iterator", data := .fields #[.ref l, .int 0 0] }).objs.size) W (e0 ▸ nf) (fun b o b1 b2 e => up b o e) st0 (by rw [e0]; exact hS0) fun h1 tk old => fin0 hn h1 tk (back old)
  · exact minH_first (u := { s with heap := (s.heap.push { cls := .type "list_iterator", data := .fields #[.ref l, .int 0 0] }).push { cls := .type "list", data := .seq #[] } }) (c := 0) (fp := [s.heap.objs.size, l]) (S := (s.heap.push { cls := .type "list_iterator", data := .fields #[.ref l, .int 0 0] }).objs.size) W (e0 ▸ cH) (e0 ▸ nf) hn (fun b o b1 b2 e => up b o e) st0 (by rw [e0]; exact hS0) fun v h1 tk pv old => fin hn v h1 tk pv (back old)
end
/-- min(xs, default = d), a list of ints -/
def rMinDK (K : PySem.W.Frag) : List V → List V → Hp → VK → Prop := fun vs zs H Q => ∃ (a : Addr) (ns : List Int) (d : Int), vs = [V.ref a] ∧ zs = [V.int d] ∧ SqL K H a (ns.map V.int) ∧ (ns = [] → Q (.int d) H) ∧ ∀ m ∈ ns, (∀ y ∈ ns, m ≤ y) → Q (.int m) H
section
variable {X : Cx}
theorem cr_minDK (hc : X.calm = true) : CallRK X (.builtin "min") [Str.ofString "default"] (rMinDK X.K) := by
  intro pins s σ H vs zs us ws Q I r rz h
  obtain ⟨a, ns, d, rfl, rfl, hs, q0, q⟩ := h
  obtain rfl := Vals.ref1 r
  obtain ⟨w1, rfl, ⟨td, rfl⟩⟩ := vals1 rz
  obtain ⟨its, rv, hl, hz⟩ := I.list hs
  have len : its.length = ns.length := by rw [← rv.length, List.length_map]
  have num : ∀ (i : Nat) (x : Value), its.toArray[i]? = some x → ∃ t, x = .int (ns.getD i 0) t ∧ ns.getD i 0 ∈ ns := fun i x e => by
    have e : its[i]? = some x := by simpa using e
    have hi : i < ns.length := by rw [← len]; exact (List.getElem?_eq_some_iff.mp e).1
    have eg : ns.getD i 0 = ns[i] := by rw [List.getD_eq_getElem?_getD, List.getElem?_eq_getElem hi]; rfl
    obtain ⟨y, e2, ⟨t, r2⟩⟩ := rv.get (i := i) (x := V.int ns[i]) (by rw [List.getElem?_map, List.getElem?_eq_getElem hi]; rfl)
    rw [e] at e2
    cases e2
    exact ⟨t, by rw [eg]; exact r2, by rw [eg]; exact List.getElem_mem hi⟩
  refine minD (bt := fun i j => decide (ns.getD i 0 < ns.getD j 0)) (d := .int d td) (I.ok.hd hc) hl.isList (fun i j x y u Q E _ ex ey hq => ?_) (fun hn h1 tk kp => ?_) fun hn x h1 tk ex kp => ?_
  · obtain ⟨t1, rfl, _⟩ := num i x ex
    obtain ⟨t2, rfl, _⟩ := num j y ey
    exact PyProof.Rows.lt_int hq
  · refine ⟨.int d, H, I.kept kp, ⟨td, rfl⟩, q0 ?_⟩
    have hn : its.length = 0 := by simpa using hn
    exact List.eq_nil_of_length_eq_zero (len ▸ hn)
  · obtain ⟨t1, rfl, hm⟩ := num _ x ex
    obtain ⟨_, best⟩ := argBest_lt (fun i => ns.getD i 0) (its.toArray.size - 1)
    refine ⟨.int _, H, I.kept kp, ⟨t1, rfl⟩, q _ hm fun y hy => ?_⟩
    obtain ⟨j, hj, rfl⟩ := List.mem_iff_getElem.mp hy
    have b := best j (by simp only [List.size_toArray]; omega)
    have eg : ns.getD j 0 = ns[j] := by rw [List.getD_eq_getElem?_getD, List.getElem?_eq_getElem hj]; rfl
    rw [← eg]
    exact b
variable {K : PySem.W.Frag}
theorem call_minDK (e : X.K = K) (hc : X.calm = true) : CallRK X (.builtin "min") [Str.ofString "default"] (rMinDK K) := e ▸ cr_minDK hc
end
section
variable {K : PySem.W.Frag} {B : Bs} {E : L2.St → XK}
def vMinD (wa wk : Env → (List Rf → Env → Prop) → XQ → Prop) : VW := fun γ Q X => wa γ (fun rs γ1 => wk γ1 (fun zs γ2 => match rs with
  | [r] => match zs with
    | [z] => peek r γ2 fun t => match t with
      | .lst ts => peek z γ2 fun u => match u with
        | .int d => ∃ ns : List Int, ts = ns.map T.int ∧ (ns = [] → Q (.val (.int d)) γ2) ∧ ∀ m ∈ ns, (∀ y ∈ ns, m ≤ y) → Q (.val (.int m)) γ2
        | _ => False
      | _ => False
    | _ => False
  | _ => False) X) X
instance {t tk : TA} {wa wk : Env → (List Rf → Env → Prop) → XQ → Prop} [ha : VA K B E t wa] [hk : VA K B E tk wk] : VE K B E (tCKw (rMinDK K) t tk) (vMinD wa wk) where
  run := fun {as γ σ G H Q Qv Xv} S h k kx => by
    refine ha.run S h (fun rs γ1 as1 vs G1 H1 p1 g1 S1 rr1 q1 => ?_) kx
    refine hk.run S1 q1 (fun zs γ2 as2 us G2 H2 p2 g2 S2 rr2 q2 => ?_) (kx.mono p1 g1)
    have k2 := (k.mono p1 g1).mono p2 g2
    split at q2
    · split at q2
      · cases rr1 with | cons a1 b1 =>
        cases b1
        cases rr2 with | cons a2 b2 =>
        cases b2
        obtain ⟨t, q3, z⟩ := peek_ok S2 (RR.mono a1 p2 g2) q2
        split at q3
        · obtain ⟨u, q4, z4⟩ := peek_rp S2 a2 q3
          split at q4
          · obtain ⟨ns, rfl, q0, q⟩ := q4
            cases z4
            obtain ⟨a, acc, rfl, e, rp⟩ := lst_any S2 z
            refine ⟨a, ns, _, rfl, rfl, by rw [← ints_inv rp]; exact SqL.of e, fun e0 => kval k2 S2 (.int _) (q0 e0), fun m hm best => kval k2 S2 (.int m) (q m hm best)⟩
          · exact q4.elim
        · exact q3.elim
      · exact q2.elim
    · exact q2.elim
end
theorem wvG {K : PySem.W.Frag} {E : XK} {t : TGn} {wv : YW} {R : YW → Prop} (h : ∀ B : Bs, VY K B (fun _ => E) t wv) (k : R wv) : ∃ wv, (∀ B : Bs, VY K B (fun _ => E) t wv) ∧ R wv := ⟨wv, h, k⟩
end VL
set_option Elab.async false
set_option linter.all false
set_option maxRecDepth 100000
set_option maxHeartbeats 4000000
/-! list(f(..)) of a generator def that may raise one given class -/
namespace VL
open PySem PySem.Spec PyProof.Rows L2 XR GenF GenW
/-- what goes out: of that class alone -/
def EOf (E : XK) (c : Addr) : XK := fun cls d H => cls = .ref c ∧ E cls d H
theorem noStopOf {K : PySem.W.Frag} {E : XK} {c : Addr} (h : PySem.W.subIn K (.ref c) (.type "StopIteration") = some false) : NoStop K (EOf E c) := by
  rintro _ _ _ ⟨rfl, _⟩
  exact h
section
variable {K : PySem.W.Frag} {B : Bs} {E : XK}
def vListGX (n : Nat) (fv : VSpG) (c : Addr) (wa : Env → (List Rf → Env → Prop) → XQ → Prop) : VW := fun γ Q X => wa γ (fun rs γ1 => rs.length = n ∧ toTs rs γ1 fun ts γ2 => fv ts (fun os => γ2.new (.lst os) Q) (fun e => e.1 = c ∧ X e γ2)) X
instance {n : Nat} {fv : VSpG} {c : Addr} {t : TA} {wa : Env → (List Rf → Env → Prop) → XQ → Prop} [ha : VA K B (fun _ => E) t wa] : VE K B (fun _ => E) (tListG (tCallG (vspG K n fv) [] (EOf E c) t)) (vListGX n fv c wa) where
  run := fun {as γ σ G H Q Qv Xv} S h k kx => by
    refine ha.run S h (fun rs γ1 as1 vs G1 H1 p1 g1 S1 rr1 q1 => ?_) kx
    obtain ⟨ts, γ2, G2, g2, S2, rp, q2⟩ := toTs_ok S1 rr1 q1.2
    refine ⟨G2, ts, _, _, S2.vw, ?_, ?_, q2, fun os ws G' H' f rp' z => ?_, fun e d G' H' f er z => ⟨congrArg Value.ref z.1, ?_⟩⟩
    · rw [List.append_nil, ← rrs_len rr1]; exact q1.1
    · rw [List.append_nil]; exact rp
    · have S3 := S2.called .nil List.nodup_nil f
      intro p hp
      exact knew (((k.mono p1 g1).mono (List.prefix_refl _) g2).mono (List.prefix_refl _) f.gg) S3 rp' z hp
    · have S3 := S2.called .nil List.nodup_nil f
      exact kx e γ2 as1 d G' H' p1 ((g1.trans g2).trans f.gg) S3 er z.2
end
end VL
set_option Elab.async false
set_option linter.all false
set_option maxRecDepth 100000
set_option maxHeartbeats 4000000
/-! sets of ints: sorted of any size, set comprehensions of one for and of two -/
namespace SetW
open PySem PySem.Spec PyProof.Rows L2
theorem good_ints : ∀ {l : List (Int × Value)}, (∀ e ∈ l, GoodE e) → IntsAre (l.map (·.2)) (l.map keyOf)
  | [], _ => .nil
  | (h0, v) :: l, h => by
    have r := good_ints (l := l) fun e m => h e (List.mem_cons_of_mem _ m)
    obtain ⟨k, tk, e1, e2⟩ := h (h0, v) List.mem_cons_self
    have e1 : v = .int k tk := e1
    subst e1
    exact .cons k tk r
theorem ints_perm : ∀ {vs us : List Value}, vs.Perm us → ∀ {ns : List Int}, IntsAre us ns → ∃ ms, IntsAre vs ms ∧ ms.Perm ns := fun p => by
  induction p with
  | nil => intro ns h; cases h; exact ⟨[], .nil, .refl _⟩
  | cons x p ih =>
    intro ns h
    cases h with | cons n t h =>
    obtain ⟨ms, h1, h2⟩ := ih h
    exact ⟨n :: ms, .cons n t h1, h2.cons n⟩
  | swap x y l =>
    intro ns h
    cases h with | cons n t h =>
    cases h with | cons m u h =>
    exact ⟨m :: n :: _, .cons m u (.cons n t h), .swap _ _ _⟩
  | trans p1 p2 ih1 ih2 =>
    intro ns h
    obtain ⟨ms, h1, h2⟩ := ih2 h
    obtain ⟨ks, h3, h4⟩ := ih1 h1
    exact ⟨ks, h3, h4.trans h2⟩
theorem ints_at : ∀ {vs : List Value} {ns : List Int} {i : Nat} {v : Value}, IntsAre vs ns → vs[i]? = some v → ∃ k t, ns[i]? = some k ∧ v = Value.int k t
  | _, _, _, _, .nil, e => by cases e
  | _, _, 0, _, .cons n t _, e => by cases e; exact ⟨n, t, rfl, rfl⟩
  | _, _, i + 1, _, .cons n t r, e => ints_at (i := i) r e
theorem ints_len : ∀ {vs : List Value} {ns : List Int}, IntsAre vs ns → vs.length = ns.length
  | _, _, .nil => rfl
  | _, _, .cons n t r => congrArg (· + 1) (ints_len r)
theorem lt_of {l : List Int} (h : l.Pairwise (· ≤ ·)) (n : l.Nodup) : l.Pairwise (· < ·) := by
  induction l with
  | nil => exact .nil
  | cons a l ih =>
    obtain ⟨h1, h2⟩ := List.pairwise_cons.mp h
    obtain ⟨n1, n2⟩ := List.nodup_cons.mp n
    refine List.pairwise_cons.mpr ⟨fun b hb => ?_, ih h2 n2⟩
    have := h1 b hb
    have ne : a ≠ b := fun z => n1 (z ▸ hb)
    omega
section
variable {prog : Program} {w : World} {A : Around} {E : Value → Shared → Prop} {s : Shared}
theorem sorted_set {a : Addr} {S : Int → Bool} {n : Nat} {Q : Value → Shared → Prop} (hs : SetR w s.heap a S n) (hh : A.handled = none) (hn : n ≤ sizeLine)
    (fin : ∀ (s' : Shared) (p : Nat) (out : Array Value) (c : Nat) (ns : List Int), (∀ b o, s.heap.get? b = some o → s'.heap.get? b = some o) → s'.gens = s.gens → s'.os = s.os → s.heap.objs.size ≤ p → s'.heap.get? p = some (seqObj "list" out c) → IntsAre out.toList ns → ns.Pairwise (· < ·) → (∀ k : Int, k ∈ ns ↔ S k = true) → ns.length = n → Q (.ref p) s') :
    wpAny (model prog w) A (call (.builtin "sorted") [.ref a]) Q E s := by
  obtain ⟨o, es, ep, t, ho, hx, hd, ge, nd, mem, lt, fits, en, ris, led⟩ := hs
  refine call_function_tree kind_sorted plain_sorted entry_sorted (args_sorted1 _) ?_
  show wpAny _ A.in1 (checkCount "sorted" 1 1 1 >>= _) _ _ s
  refine wpAny_bind (wpAny_of_eq (a := ()) rfl ?_)
  refine wpAny_bind (collect_set (by exact hh) ⟨o, ho, hx.1, hd⟩ fits lt ris led fun s' out kp szl eg eo pm => ?_)
  have i0 := good_ints ge
  obtain ⟨ms, i1, pm1⟩ := ints_perm pm i0
  have len : out.length ≤ sizeLine := by rw [pm.length_eq, List.length_map]; simpa [en] using hn
  refine wpAny_bind (wpAny_newList ?_ len)
  have hl : (s'.heap.push { cls := Value.type "list", data := Data.seq out.toArray }).get? s'.heap.objs.size = some (seqObj "list" out.toArray 0) := Heap.get?_push_size _ rfl
  refine wpAny_bind (wpAny_holding ?_)
  refine wpAny_call_entry slot_list_sort ⟨_, hl, rfl⟩ entry_list_sort ?_ (args_list_sort _)
  refine SrtO.list_sort_ord SrtO.swo_int hl len (fun h2 => SrtO.ints_sortable i1 h2) fun o2 hs2 st2 => ?_
  obtain ⟨j1, j2, j3⟩ := SrtO.ints_out i1 hs2 st2
  obtain ⟨c, hc⟩ := sortedHeap_at (out := o2.toArray) hl
  refine ⟨_, rfl, wpAny_pure (fin _ _ o2.toArray c _ (fun b o e => ?_) eg eo szl hc j1 (lt_of j3 ?_) (fun k => ?_) ?_)⟩
  · have lt2 : b < s'.heap.objs.size := Heap.lt_size (kp b o e)
    exact (sortedHeap_old (Nat.ne_of_lt lt2) (by rw [Heap.size_push]; exact Nat.lt_succ_of_lt lt2)).trans (Heap.get?_push_of_some _ (kp b o e))
  · exact (j2.trans pm1).nodup_iff.mpr nd
  · rw [(j2.trans pm1).mem_iff, mem]
  · rw [(j2.trans pm1).length_eq, List.length_map]; simpa using en
theorem set_list {l : Addr} {items : Array Value} (ns : List Int) {Q : Value → Shared → Prop} (hh : A.handled = none) (hl : s.heap.IsList l items) (hi : IntsAre items.toList ns) (hn : ns.length + 1 < scanBound)
    (fin : ∀ (h' : Heap) (tk c : Nat), SetR w h' s.heap.objs.size (fun j => decide (j ∈ ns)) c → c ≤ ns.length → (∀ b o, s.heap.get? b = some o → h'.get? b = some o) → Q (.ref s.heap.objs.size) { s with heap := h', toks := tk }) :
    wpAny (model prog w) A (call (.type "set") [.ref l]) Q E s := by
  have fr := setR_fresh (h := s.heap) w
  obtain ⟨c, tl, hmro⟩ := F.called_set.mro
  have hmade := F.called_set.made
  have hsub := F.called_set.sub
  have hct := F.typeCall_set_1 (.ref l)
  refine wpAny_call (codeAny_of_tree (id (wpAny_pure ⟨Code.quiet_builtin _ (by decide +kernel), codeAny_builtin F.entry_type_call ?_⟩)))
  rw [Around.under_plain (weight_type_call_type "set" [Value.ref l] []) rfl]
  unfold Builtin.«type.__call__»
  dsimp only
  refine wpAny_ite_false (by rfl) ?_
  refine wpAny_ite_false (by rfl) ?_
  refine wpAny_bind (wpAny_of_eq hct ?_)
  refine wpAny_bind (wpAny_of_eq hmro ?_)
  refine wpAny_ite_false rfl ?_
  refine wpAny_bind (wpAny_of_eq hmade ?_)
  refine wpAny_bind (wpAny_pure ?_)
  refine wpAny_bind (wpAny_holding (wpAny_call ?_))
  refine codeAny_mono (code_set_led1 (.ref l) (E := fun _ _ => False) (Q₁ := fun v s1 => v = .ref s.heap.objs.size ∧ s1 = { s with heap := s.heap.push { cls := Value.type "set", data := Data.set #[] 0 (SetTable.fresh 0 0 !w.params.followText "set-order") } }) ⟨rfl, rfl⟩) fun r s1 hr => ?_
  generalize eS : s.heap.objs.size = S at *
  obtain ⟨v, rfl⟩ : ∃ v, r = .ok (.ret v) := by
    cases r with
    | error e => exact hr.elim
    | ok fl => cases fl with
      | ret v => exact ⟨v, rfl⟩
      | _ => exact hr.elim
  obtain ⟨rfl, rfl⟩ := hr
  obtain ⟨o, es, ep, t, ho, hx, hd, ge, nd, mem, lt, fits, en, ris, led⟩ := id fr
  have ty : Shared.TypeIs { s with heap := s.heap.push { cls := Value.type "set", data := Data.set #[] 0 (SetTable.fresh 0 0 !w.params.followText "set-order") } } (.ref S) "set" := ⟨o, ho, hx.1⟩
  have hli := F.called_set.init.lookup
  have hbi := F.called_set.init.bind (.ref S)
  refine wpAny_bind (wpAny_isInstance ty hsub ?_)
  refine wpAny_ite_false rfl ?_
  refine wpAny_bind (wpAny_holding ?_)
  refine wpAny_bind (wpAny_specialOf ty hli ?_)
  refine wpAny_holding ?_
  refine wpAny_bind (wpAny_of_eq hbi ?_)
  refine wpAny_bind (wpAny_call ?_)
  refine codeAny_mono (codeAny_call_builtin F.called_set.init.plain F.entry_set_init (check_set_init_1 ty ?_) (R := fun r s' => ∃ (h' : Heap) (tk c : Nat), r = .ok (.ret .none) ∧ s' = { s with heap := h', toks := tk } ∧ SetR w h' S (fun j => decide (j ∈ ns)) c ∧ c ≤ ns.length ∧ (∀ b o, s.heap.get? b = some o → h'.get? b = some o))) fun r2 s2 hr2 => ?_
  rotate_left
  · obtain ⟨h', tk, c', rfl, rfl, k1, k2, k3⟩ := hr2
    refine wpAny_pure ?_
    refine wpAny_ite_false rfl ?_
    exact wpAny_pure (fin h' tk c' k1 k2 k3)
  show wpAny _ A.in1.in1 (noKeywords "set" ⟨[.ref S, .ref l], []⟩ >>= _) _ _ _
  refine wpAny_bind (wpAny_of_eq (a := ()) rfl ?_)
  refine wpAny_bind (wpAny_bind (wpAny_bind (wpAny_typeOf ty ?_)))
  refine wpAny_of_eq (a := Value.type "set") rfl ?_
  refine wpAny_of_eq (a := "set") (by rfl) ?_
  refine wpAny_bind (wpAny_of_eq (a := ()) rfl ?_)
  refine wpAny_bind (wpAny_of_eq (a := S) rfl ?_)
  refine wpAny_bind (wpAny_bind (wpAny_setState_of ho hd fits ?_))
  have un : (t.fill != 0) = false := by
    have ho2 : (s.heap.push { cls := Value.type "set", data := Data.set #[] 0 (SetTable.fresh 0 0 !w.params.followText "set-order") }).get? S = some { cls := Value.type "set", data := Data.set #[] 0 (SetTable.fresh 0 0 !w.params.followText "set-order") } := by rw [← eS]; exact Heap.get?_push_size _ rfl
    rw [ho2] at ho
    cases ho
    cases hd
    rfl
  refine wpAny_pure ?_
  rw [un]
  have hl2 : (s.heap.push { cls := Value.type "set", data := Data.set #[] 0 (SetTable.fresh 0 0 !w.params.followText "set-order") }).IsList l items := hl.push _
  have tl : Shared.TypeIs { s with heap := s.heap.push { cls := Value.type "set", data := Data.set #[] 0 (SetTable.fresh 0 0 !w.params.followText "set-order") } } (.ref l) "list" := hl2.typeIs
  show wpAny _ A.in1.in1 (Builtin.Frozenset.updateFrom "set.__init__" S (.ref l) >>= _) _ _ _
  refine wpAny_bind (wpAny_bind (wpAny_bind (wpAny_isInstance tl (b := false) (by rfl) ?_)))
  refine (wpAny_isInstance tl (b := false) (by rfl) ?_)
  refine wpAny_bind (wpAny_typeOf tl ?_)
  show wpAny _ A.in1.in1 (pyIter (.ref l) >>= _) _ _ _
  refine wpAny_bind (wpAny_pyIter_list hl2 ?_)
  have ll : Nat.lt l s.heap.objs.size := by obtain ⟨_, e, _⟩ := hl; exact Heap.lt_size e
  generalize eh : (s.heap.push { cls := Value.type "set", data := Data.set #[] 0 (SetTable.fresh 0 0 !w.params.followText "set-order") }) = h1 at *
  have sz : h1.objs.size = s.heap.objs.size + 1 := by rw [← eh]; exact Heap.size_push ..
  have W := (Walks.list (prog := prog) (w := w) (A := A.in1.in1.in1) hh h1.objs.size l (Nat.ne_of_lt (by rw [sz]; exact Nat.lt_succ_of_lt ll)) items).toS
  have hi2 : ∀ (i : Nat) (v : Value), items[i]? = some v → ∃ k t, ns[i]? = some k ∧ v = Value.int k t := fun i v e => ints_at hi (by simpa using e)
  have len : items.size = ns.length := by have := ints_len hi; simpa using this
  refine wpAny_bind (wpAny_runValue (set_update_ints W S (fun z => by
    rcases List.mem_cons.mp z with z | z
    · rw [← eS, sz] at z; exact absurd z.symm (Nat.succ_ne_self _)
    · have z := List.mem_singleton.mp z; rw [← eS] at z; exact absurd z.symm (Nat.ne_of_lt ll)) ns len hn hi2 items.size 0 _ (by omega) (by omega) ⟨⟨_, Heap.get?_push_size _ rfl, rfl, rfl⟩, hl2.push _⟩ ⟨0, Nat.le_refl _, by simpa using fr.at fun o e => Heap.get?_push_of_some _ e⟩ ?_))
  intro s' c mv hc hr
  obtain ⟨h', g', d', tk', os'⟩ := s'
  obtain ⟨m1, m2, m3, m4, m5⟩ := mv
  cases m2
  cases m3
  cases m4
  refine wpAny_pure (wpAny_pure ⟨h', tk', c, rfl, rfl, hr, by omega, fun b o e => ?_⟩)
  have lt2 := Heap.lt_size e
  refine m1 b o (fun z => ?_) (Heap.get?_push_of_some _ (by rw [← eh]; exact Heap.get?_push_of_some _ e))
  rcases List.mem_cons.mp z with z | z
  · rw [← eS] at z; exact absurd z (Nat.ne_of_lt lt2)
  · have z := List.mem_singleton.mp z
    rw [sz] at z
    exact absurd z (Nat.ne_of_lt (Nat.lt_succ_of_lt lt2))
end
end SetW
set_option Elab.async false
set_option linter.all false
set_option maxRecDepth 100000
set_option maxHeartbeats 4000000
/-! set comprehensions of ints: the rules -/
namespace SetW
open PySem PySem.Spec PyProof.Rows L2
/-! ### two fors, at the model's level -/
section
variable {prog : Program} {w : World} {A : Around} {R : Result → Shared → Prop} {s : Shared} {elt t0 i0 t1 i1 : Expr} {ifs0 ifs1 : List Expr} {scope : Scope} {pos : Pos} {it acc : Value} {env : Env}
abbrev two (elt t0 i0 : Expr) (ifs0 : List Expr) (t1 i1 : Expr) (ifs1 : List Expr) (scope : Scope) (pos : Pos) : Expr := .SetComp elt [⟨t0, i0, ifs0, 0⟩, ⟨t1, i1, ifs1, 0⟩] scope pos
theorem compLoopS2_in (I : Nat → Shared → Prop) (h : ∀ n s, I n s → wpAny (model prog w) A (pyNext it) (fun r s₁ => match r with
      | none => R (.ok .next) s₁
      | some v => wpAny (model prog w) A (letOwnedTupleGo t1 it v) (fun _ s₁' => wpAny (model prog w) A (assign t1 env v) (fun _ s₂ => wpAny (model prog w) A (forIn ifs1 true fun c r => if r = true then do
                                let ok ← PySem.isTrue c env (eval c env)
                                pure (ForInStep.yield ok)
                              else pure (ForInStep.yield r)) (fun ok s₃ => if ok = true then wpAny (model prog w) A (eval elt env) (fun x s₄ => wpAny (model prog w) A (call (.builtin "set.add") [acc, x]) (fun _ s₅ => ∃ m, m < n ∧ I m s₅) (notedBy (model prog w) A env fun e s' => R (.error e) s') s₄) (notedBy (model prog w) A env fun e s' => R (.error e) s') s₃ else ∃ m, m < n ∧ I m s₃) (notedBy (model prog w) A env fun e s' => R (.error e) s') s₂) (notedBy (model prog w) A env fun e s' => R (.error e) s') s₁') (notedBy (model prog w) A env fun e s' => R (.error e) s') s₁) (notedBy (model prog w) A env fun e s' => R (.error e) s') s) (n : Nat) (hI : I n s) :
    codeAny (model prog w) A (.compLoop (two elt t0 i0 ifs0 t1 i1 ifs1 scope pos) 1 it acc env) R s := by
  refine codeAny_loop (by rfl) I (fun n s hn => ?_) n hI
  show wpAny _ A ((compTurn (two elt t0 i0 ifs0 t1 i1 ifs1 scope pos) 1 it acc env).onRaise _) _ _ s
  refine wpAny_onRaise ?_
  show wpAny _ A (standAt _ >>= _) _ _ s
  refine wpAny_bind (wpAny_standAt ?_)
  have err : ∀ (e : Value) (s1 : Shared), notedBy (model prog w) A env (fun e s' => R (.error e) s') e s1 → wpAny (model prog w) A (noteFrame e env >>= fun _ => theTreesLotGoes e) (fun _ s'' => R (.error e) s'') (fun e s' => R (.error e) s') s1 := fun e s1 q => wpAny_bind (wpAny_mono q (fun _ _ q => wpAny_theTreesLotGoes q) fun _ _ z => z)
  refine wpAny_bind (wpAny_mono (h n s hn) (fun r s1 q => ?_) err)
  cases r with
  | none => exact wpAny_pure q
  | some v =>
    refine wpAny_bind (wpAny_mono q (fun _ s2 q2 => ?_) err)
    refine wpAny_bind (wpAny_mono q2 (fun _ s3 q3 => ?_) err)
    refine wpAny_bind (wpAny_mono q3 (fun ok s4 q4 => ?_) err)
    cases ok with
    | false => exact wpAny_pure ⟨rfl, by simpa using q4⟩
    | true =>
      have q4 := (if_pos rfl : (if true = true then _ else _) = _) ▸ q4
      refine wpAny_bind (wpAny_bind (wpAny_mono q4 (fun x s5 q5 => ?_) err))
      refine wpAny_bind (wpAny_standAt ?_)
      refine wpAny_bind (wpAny_mono q5 (fun _ s6 q6 => ?_) err)
      exact wpAny_pure (wpAny_pure ⟨rfl, q6⟩)
theorem compLoopS2_out (hf : ∀ x, foldedSetIterable i1 env x = pure x) (I : Nat → Shared → Prop) (h : ∀ n s, I n s → wpAny (model prog w) A (pyNext it) (fun r s₁ => match r with
      | none => R (.ok .next) s₁
      | some v => wpAny (model prog w) A (letOwnedTupleGo t0 it v) (fun _ s₁' => wpAny (model prog w) A (assign t0 env v) (fun _ s₂ => wpAny (model prog w) A (forIn ifs0 true fun c r => if r = true then do
                                let ok ← PySem.isTrue c env (eval c env)
                                pure (ForInStep.yield ok)
                              else pure (ForInStep.yield r)) (fun ok s₃ => if ok = true then wpAny (model prog w) A (eval i1 env) (fun x s₄ => wpAny (model prog w) A (pyIter x) (fun it1 s₅ => codeAny (model prog w) A (.compStart (two elt t0 i0 ifs0 t1 i1 ifs1 scope pos) 1 it1 acc env) (fun r s' => match r with
                  | .ok _ => ∃ m, m < n ∧ I m s'
                  | .error _ => False) s₅) (notedBy (model prog w) A env fun e s' => R (.error e) s') s₄) (notedBy (model prog w) A env fun e s' => R (.error e) s') s₃ else ∃ m, m < n ∧ I m s₃) (notedBy (model prog w) A env fun e s' => R (.error e) s') s₂) (notedBy (model prog w) A env fun e s' => R (.error e) s') s₁') (notedBy (model prog w) A env fun e s' => R (.error e) s') s₁) (notedBy (model prog w) A env fun e s' => R (.error e) s') s) (n : Nat) (hI : I n s) :
    codeAny (model prog w) A (.compLoop (two elt t0 i0 ifs0 t1 i1 ifs1 scope pos) 0 it acc env) R s := by
  refine codeAny_loop (by rfl) I (fun n s hn => ?_) n hI
  show wpAny _ A ((compTurn (two elt t0 i0 ifs0 t1 i1 ifs1 scope pos) 0 it acc env).onRaise _) _ _ s
  refine wpAny_onRaise ?_
  show wpAny _ A (standAt _ >>= _) _ _ s
  refine wpAny_bind (wpAny_standAt ?_)
  have err : ∀ (e : Value) (s1 : Shared), notedBy (model prog w) A env (fun e s' => R (.error e) s') e s1 → wpAny (model prog w) A (noteFrame e env >>= fun _ => theTreesLotGoes e) (fun _ s'' => R (.error e) s'') (fun e s' => R (.error e) s') s1 := fun e s1 q => wpAny_bind (wpAny_mono q (fun _ _ q => wpAny_theTreesLotGoes q) fun _ _ z => z)
  refine wpAny_bind (wpAny_mono (h n s hn) (fun r s1 q => ?_) err)
  cases r with
  | none => exact wpAny_pure q
  | some v =>
    refine wpAny_bind (wpAny_mono q (fun _ s2 q2 => ?_) err)
    refine wpAny_bind (wpAny_mono q2 (fun _ s3 q3 => ?_) err)
    refine wpAny_bind (wpAny_mono q3 (fun ok s4 q4 => ?_) err)
    cases ok with
    | false => exact wpAny_pure ⟨rfl, by simpa using q4⟩
    | true =>
      have q4 := (if_pos rfl : (if true = true then _ else _) = _) ▸ q4
      refine wpAny_bind (wpAny_mono q4 (fun x s5 q5 => ?_) err)
      refine wpAny_bind (wpAny_standAt ?_)
      refine wpAny_bind (wpAny_of_eq (hf x) ?_)
      refine wpAny_bind (wpAny_holding (wpAny_mono q5 (fun it1 s6 q6 => ?_) err))
      refine wpAny_bind (wpAny_runOwn ?_)
      refine codeAny_mono q6 fun r s7 q7 => ?_
      cases r with
      | error e => exact q7.elim
      | ok f => exact wpAny_pure ⟨rfl, q7⟩
theorem compStartS1_ok (hl : codeAny (model prog w) A (.compLoop (two elt t0 i0 ifs0 t1 i1 ifs1 scope pos) 1 it acc env) R s)
    (hi : wpAny (model prog w) A (pyIter it) (fun it' s' => codeAny (model prog w) A (.compLoop (two elt t0 i0 ifs0 t1 i1 ifs1 scope pos) 1 it' acc env) R s') (notedBy (model prog w) A env fun x s' => R (.error x) s') s) :
    codeAny (model prog w) A (.compStart (two elt t0 i0 ifs0 t1 i1 ifs1 scope pos) 1 it acc env) R s := by
  refine codeAny_of_tree ?_
  show wpAny _ A ((compStart (two elt t0 i0 ifs0 t1 i1 ifs1 scope pos) 1 it acc env).onRaise _) _ _ s
  refine wpAny_onRaise ?_
  unfold compStart
  refine wpAny_ite_false (by rfl) ?_
  refine wpAny_bind (wpAny_askSetting ?_)
  show wpAny _ A (if w.params.followText "comprehension-iter-twice" = true then _ else _) _ _ _
  by_cases hc : w.params.followText "comprehension-iter-twice" = true
  · rw [if_pos hc]
    exact wpAny_pure ⟨rfl, hl⟩
  · rw [if_neg hc]
    refine wpAny_bind (wpAny_rule ?_)
    refine wpAny_bind (wpAny_standAt ?_)
    refine wpAny_bind (wpAny_mono hi (fun it2 s2 q => wpAny_pure ⟨rfl, q⟩) fun e s2 q => ?_)
    exact wpAny_bind (wpAny_mono q (fun _ _ q => wpAny_standAt q) fun _ _ z => z)
end
end SetW
set_option Elab.async false
set_option linter.all false
set_option maxRecDepth 100000
set_option maxHeartbeats 4000000
/-! set comprehensions of ints: as values -/
namespace SetW
open PySem PySem.Spec PyProof.Rows L2
section
variable {X : Cx} {pins : List (Addr × Obj)} {σ : L2.St} {H : Hp} {s : Shared}
theorem addI_ok {E : Value → Shared → Prop} {D : Addr} {S : Int → Bool} {n : Nat} {k : Int} {u : Value} {Q : Value → Shared → Prop} (hx : X.xe = fun _ _ => False) (J : Inv X pins σ H s) (ru : RelV (V.int k) u) (hD : H D = some (SetO X.w D S n)) (hn : n + 1 < scanBound)
    (h : ∀ v s', Inv X pins σ (upd H D (SetO X.w D (fun j => S j || decide (j = k)) (if S k = true then n else n + 1))) s' → Q v s') : wpAny (model X.prog X.w) X.A (call (.builtin "set.add") [.ref D, u]) Q E s := by
  have z := mt_sadd (X := X) pins s σ H (V.ref D) [V.int k] (.ref D) [u] (fun v H' => v = .non ∧ H' = upd H D (SetO X.w D (fun j => S j || decide (j = k)) (if S k = true then n else n + 1))) J rfl (.cons ru .nil) ⟨D, k, S, n, rfl, rfl, hD, hn, rfl, rfl⟩
  rw [hx] at z
  exact thnF z fun v s' ⟨_, H', J', _, _, e⟩ => h v s' (e ▸ J')
theorem wipe_at : ∀ (vs : List Nat) (σ : L2.St) (i : Nat), (wipe σ vs)[i]? = if i ∈ vs then σ[i]?.map fun _ => none else σ[i]?
  | [], σ, i => by simp [wipe]
  | v :: vs, σ, i => by
    show (List.set (wipe σ vs) v none)[i]? = _
    rw [List.getElem?_set, wipe_length]
    by_cases h : v = i
    · subst h
      by_cases h2 : v < List.length σ
      · rw [if_pos rfl, if_pos h2, if_pos List.mem_cons_self, List.getElem?_eq_getElem h2]; rfl
      · rw [if_pos rfl, if_neg h2, if_pos List.mem_cons_self, List.getElem?_eq_none (by omega)]; rfl
    · rw [if_neg h, wipe_at vs]
      by_cases h3 : i ∈ vs
      · rw [if_pos h3, if_pos (List.mem_cons_of_mem _ h3)]
      · rw [if_neg h3, if_neg (fun z => by rcases List.mem_cons.mp z with z | z; exact h z.symm; exact h3 z)]
theorem wipe_sub {τ : L2.St} {vs1 vs : List Nat} (h : ∀ i ∈ vs1, i ∈ vs) : wipe (wipe τ vs1) vs = wipe τ vs := by
  apply List.ext_getElem?
  intro i
  rw [wipe_at, wipe_at, wipe_at]
  by_cases h1 : i ∈ vs
  · rw [if_pos h1, if_pos h1]
    split
    · cases τ[i]? <;> rfl
    · rfl
  · rw [if_neg h1, if_neg h1, if_neg fun z => h1 (h i z)]
/-- what an item does to the set -/
def addQ (w : World) (D : Addr) (N : Hp → Prop) : V → Hp → Prop := fun y H4 => ∃ (k : Int) (S : Int → Bool) (n : Nat), y = .int k ∧ H4 D = some (SetO w D S n) ∧ n + 1 < scanBound ∧ N (upd H4 D (SetO w D (fun j => S j || decide (j = k)) (if S k = true then n else n + 1)))
def bodyI (w : World) (g : TG) (tt : TT) (te : TE) (vs : List Nat) (σ : L2.St) (Q : VK) : It → Addr → Hp → Prop := fun J D H1 => ∃ W : Nat → Nat → Hp → Prop, (∃ m, W 0 m H1) ∧ ∀ i m H, W i m H → (J.stop i H ∧ Q (.ref D) H) ∨ (J.go i H ∧ ∃ Nx : Hp → Prop, (∀ H', Nx H' → ∃ m', m' < m ∧ W (i + 1) m' H') ∧ ∀ x H', J.yld i H x H' → g x (wipe σ vs) H' fun σ2 H2 => wipe σ2 vs = wipe σ vs ∧ tt σ2 H2 fun b H3 => if b = true then te σ2 H3 (addQ w D Nx) else Nx H3)
def bodyI2 (w : World) (g : TG) (tt : TT) (wi1 : TI) (g1 : TG) (tt1 : TT) (te : TE) (vs vs1 : List Nat) (σ : L2.St) (Q : VK) : It → Addr → Hp → Prop := fun J D H1 => ∃ W : Nat → Nat → Hp → Prop, (∃ m, W 0 m H1) ∧ ∀ i m H, W i m H → (J.stop i H ∧ Q (.ref D) H) ∨ (J.go i H ∧ ∃ Nx : Hp → Prop, (∀ H', Nx H' → ∃ m', m' < m ∧ W (i + 1) m' H') ∧ ∀ x H', J.yld i H x H' → g x (wipe σ vs) H' fun σ2 H2 => wipe σ2 vs = wipe σ vs ∧ tt σ2 H2 fun b H3 => if b = true then
    wi1 σ2 H3 fun J1 H4 => ∃ W1 : Nat → Nat → Hp → Prop, (∃ m, W1 0 m H4) ∧ ∀ j k H, W1 j k H → (J1.stop j H ∧ Nx H) ∨ (J1.go j H ∧ ∃ Nx1 : Hp → Prop, (∀ H', Nx1 H' → ∃ k', k' < k ∧ W1 (j + 1) k' H') ∧ ∀ x H', J1.yld j H x H' → g1 x (wipe σ2 vs1) H' fun σ3 H5 => wipe σ3 vs1 = wipe σ2 vs1 ∧ tt1 σ3 H5 fun b H6 => if b = true then te σ3 H6 (addQ w D Nx1) else Nx1 H6)
    else Nx H3)
/-- the reading of {elt for tg in iter if ..} -/
def tScI (w : World) (wi : TI) (g : TG) (tt : TT) (te : TE) (vs : List Nat) : TE := fun σ H Q => wi σ H fun J H1 => ∀ D, H1 D = none → bodyI w g tt te vs σ Q J D (upd H1 D (SetO w D (fun _ => false) 0))
/-- the reading of {elt for tg in iter if .. for tg1 in iter1 if ..} -/
def tScI2 (w : World) (wi : TI) (g : TG) (tt : TT) (wi1 : TI) (g1 : TG) (tt1 : TT) (te : TE) (vs vs1 : List Nat) : TE := fun σ H Q => wi σ H fun J H1 => ∀ D, H1 D = none → bodyI2 w g tt wi1 g1 tt1 te vs vs1 σ Q J D (upd H1 D (SetO w D (fun _ => false) 0))
end
section
variable {X : Cx} {elt tg iter tg1 iter1 : Expr} {ifs ifs1 : List Expr} {scope : Scope} {own : List (Str × Nat)} {vs1 : List Nat} {pos : Pos} {wi wi1 : TI} {g g1 : TG} {tt tt1 : TT} {te : TE}
/-- the frame of both: the set is laid, the block of names begins; the loop is the caller's -/
theorem sc_frame {e : Expr} {gs : List Comprehension} {pins : List (Addr × Obj)} {s : Shared} {σ : L2.St} {H : Hp} {Q : VK} {pos' : Pos} {T : It → Addr → Hp → Prop}
    (hcl : clausesOf e = ⟨tg, iter, ifs, 0⟩ :: gs) (hN : X.N.Nodup) (I : Inv X pins σ H s) (hi : PI X tg iter wi) (ok : BlkOk X.N X.env.scope scope own) (hfs : ∀ x, foldedSetIterable iter X.env x = pure x)
    (h : wi σ H fun J H1 => ∀ D, H1 D = none → T J D (upd H1 D (SetO X.w D (fun _ => false) 0)))
    (loop : ∀ (it D C : Addr) (fp : List Addr) (tn : Nat → Heap → Prop) (J : It) (s3 s4 : Shared) (H3 : Hp) (cl : List (Str × Addr)) (R : Result → Shared → Prop), Turn X.prog X.w X.K tg J fp it tn →
      Inv (X.blk s3 H3 scope (compEnvC scope cl C X.env) fp) [] (wipe σ (own.map (·.2))) H3 s4 → tn 0 s4.heap → (∀ b ∈ fp, H3 b = none) → T J D H3 → (∀ (r : Shared) (G : Hp), Inv (X.blk s3 H3 scope (compEnvC scope cl C X.env) fp) [] (wipe σ (own.map (·.2))) G r → Q (.ref D) G → R (.ok .next) r) →
      codeAny (model X.prog X.w) X.A (.compStart e 0 (.ref it) (.ref D) (compEnvC scope cl C X.env)) R s4) :
    wpAny (model X.prog X.w) X.A (comprehension e scope X.env pos' (newSet (.type "set")) false (eval iter X.env) none) (EP X pins σ Q) X.xe s := by
  have closed : ∀ y ∈ scope.names, y.2 = .free → ∃ c, X.env.cells.lookup y.1 = some c := fun y hy e => (ok.free y hy e).elim (fun z => I.ok.has _ (.inl z)) fun z => I.ok.has _ (.inr z)
  refine comprehension_at (use := none) hcl hfs (closure_ok closed) ok.kind (fun y hy e => by rw [ok.uniq y hy, e]) ?_
  refine thn (hi.run pins s σ H _ I h) fun xv s1 made1 => thn made1 fun itv s2 made2 => ?_
  obtain ⟨it, fp, tn, J, H2, rfl, I2, turns, st2, f2, q⟩ := made2
  refine PpSet.newSet_ok (newEnv_comp ?_)
  have fr := setR_fresh (h := s2.heap) X.w
  generalize eD : s2.heap.objs.size = D at fr
  have noD : H2 D = none := I2.hok.fresh (Nat.le_of_eq eD)
  have q := q D noD
  -- the set is laid
  generalize e3 : ({ s2 with heap := s2.heap.push { cls := Value.type "set", data := Data.set #[] 0 (SetTable.fresh 0 0 !X.w.params.followText "set-order") } } : Shared) = s3
  have heap3 : s3.heap = s2.heap.push { cls := Value.type "set", data := Data.set #[] 0 (SetTable.fresh 0 0 !X.w.params.followText "set-order") } := by rw [← e3]
  generalize eH : upd H2 D (SetO X.w D (fun _ => false) 0) = H3 at q
  have I3 : Inv X pins σ H3 s3 := by
    rw [← e3, ← eH]
    exact I2.laid (t' := s2.toks) (fun b o z => Heap.get?_push_of_some _ z) (Nat.le_of_eq eD) (setO_new fr)
  have f3 : ∀ b ∈ fp, FpOk X pins H3 b ∧ b < s3.heap.objs.size := fun b hb => by
    obtain ⟨o, z, _⟩ := turns.obj _ _ st2 b hb
    have lt : b < s2.heap.objs.size := Heap.lt_size z
    refine ⟨⟨?_, (f2 b hb).2⟩, by rw [heap3, Heap.size_push]; exact Nat.lt_succ_of_lt lt⟩
    rw [← eH, upd_ne (by rw [← eD]; exact Nat.ne_of_lt lt)]
    exact (f2 b hb).1
  have st3 : tn 0 s3.heap := turns.keep _ _ _ st2 fun b _ o z => by rw [heap3]; exact Heap.get?_push_of_some _ z
  -- the block of names
  have I4 := block_start I3 ok hN f3
  generalize ecl : cellsFrom (s3.heap.objs.size + 1) scope.names (cloFrom X.env.cells scope.names []) = cl at I4
  obtain ⟨ce, ece⟩ : ∃ ce, ce = compEnvC scope cl s3.heap.objs.size X.env := ⟨_, rfl⟩
  have eL : ce.locals = s3.heap.objs.size := by rw [ece]; rfl
  generalize e4 : ({ s3 with heap := pushCells (s3.heap.push { cls := .type "dict", data := .dict #[] }) scope.names } : Shared) = s4 at I4
  have st4 : tn 0 s4.heap := turns.keep _ _ _ st3 fun b _ o z => by rw [← e4]; exact pushCells_keeps _ _ _ _ (Heap.get?_push_of_some _ z)
  have start := loop it D s3.heap.objs.size fp tn J s3 s4 H3 cl (compEnds (model X.prog X.w) X.A X.xe none (EP X pins σ Q) (.ref D) ce) turns I4 st4 (fun b hb => (f3 b hb).1.1) q fun r G J6 qq => by
    rw [← ece] at J6
    have I7 : Inv X pins σ G r := by
      refine I3.call' (ch := fp) J6.os J6.base J6.hok J6.bare fun b hb => ?_
      obtain ⟨⟨_, z1, _, z3, z4, z5⟩, _⟩ := f3 b hb
      exact ⟨z3, z1, z4, z5⟩
    obtain ⟨m, hm, _⟩ := J6.loc
    have z : G ce.locals = none := J6.free
    have fC : FpOk X pins G ce.locals := I3.fpOk (by rw [eL]; exact Nat.le_refl _) z
    refine ⟨m, hm, fun h2 sb => ?_⟩
    obtain ⟨z0, z1, z2, z3, z4, z5⟩ := fC
    exact ⟨.ref D, G, I7.turned (t' := r.toks) (fun b o ne e => (sb.2 b ne).trans e) z0 z1 z3 z4 z5, rfl, qq⟩
  subst ece e4 ecl
  exact start
theorem keepB {pins' : List (Addr × Obj)} {s3 : Shared} {H3 : Hp} {ce : PySem.Env} {fp : List Addr} {τ : L2.St} {G : Hp} {r : Shared} (J : Inv (X.blk s3 H3 scope ce fp) [] τ G r) (no : ∀ b ∈ fp, G b = none) : ∀ b ∈ fp, FpOk (X.blk s3 H3 scope ce fp) [] G b := fun b hb =>
  ⟨no b hb, (J.ok.exf b hb).1, J.ok.exfs b hb, .inl hb, fun x c z => (J.ok.exf b hb).2 x c z, fun p hp => absurd (show p ∈ ([] : List (Addr × Obj)) ++ [] from hp) (by simp)⟩
/-- one turn is over: the names let go, the walk's objects as they were -/
theorem closeB {s3 : Shared} {H3 : Hp} {ce : PySem.Env} {fp ws : List Addr} {pl : List (Addr × Obj)} {vs : List Nat} {σ τ : L2.St} {G : Hp} {h7 : Heap} {r : Shared} {it : Addr} {tn : Nat → Heap → Prop} {J : It} {i : Nat} (turns : Turn X.prog X.w X.K tg J ws it tn) (J1 : Inv (X.blk s3 H3 scope ce fp) (pl ++ pinsAt ws h7) τ G r) (sameW : wipe τ vs = wipe σ vs) (st7 : tn i h7) :
    Inv (X.blk s3 H3 scope ce fp) pl (wipe σ vs) G r ∧ tn i r.heap ∧ ∀ b ∈ ws, G b = none := by
  have stay : ∀ b ∈ ws, ∀ o, h7.get? b = some o → r.heap.get? b = some o ∧ G b = none := fun b hb o z => by
    have := J1.pin (b, o) (List.mem_append_right _ (List.mem_append_right _ (mem_pinsAt hb z)))
    exact ⟨this.1, this.2.1⟩
  refine ⟨Inv.weak (Inv.unpinned J1) (by rw [← sameW, wipe_length]) (fun j v z => (wipe_some (by rw [sameW]; exact z)).1), turns.keep _ _ _ st7 fun b hb o z => (stay b hb o z).1, fun b hb => ?_⟩
  obtain ⟨o, z, _⟩ := turns.obj _ _ st7 b hb
  exact (stay b hb o z).2
theorem pe_scI (hc : X.calm = true) (hN : X.N.Nodup) (hi : PI X tg iter wi) (ok : BlkOk X.N X.env.scope scope own)
    (hg : ∀ (s : Shared) (H : Hp) (C : Addr) (cl : List (Str × Addr)) (fp : List Addr), PG (X.blk s H scope (compEnvC scope cl C X.env) fp) tg g)
    (ht : ∀ (s : Shared) (H : Hp) (C : Addr) (cl : List (Str × Addr)) (fp : List Addr), PTs (X.blk s H scope (compEnvC scope cl C X.env) fp) ifs tt)
    (he : ∀ (s : Shared) (H : Hp) (C : Addr) (cl : List (Str × Addr)) (fp : List Addr), PE (X.blk s H scope (compEnvC scope cl C X.env) fp) elt te) (hfs : ∀ x, foldedSetIterable iter X.env x = pure x := by intro _; rfl) :
    PE X (.SetComp elt [⟨tg, iter, ifs, 0⟩] scope pos) (tScI X.w wi g tt te (List.map (fun y : Str × Nat => y.2) own)) := by
  refine ⟨fun pins s σ H Q I h => ?_⟩
  rw [PpSet.eval_SetComp]
  refine sc_frame (T := bodyI X.w g tt te (List.map (fun y : Str × Nat => y.2) own) σ Q) rfl hN I hi ok hfs h ?_
  rintro it D C fp tn J s3 s4 H3 cl R turns I4 st4 n4 ⟨Wn, ⟨m0, w0⟩, steps⟩ fin
  have pg := hg s3 H3 C cl fp
  have pt := ht s3 H3 C cl fp
  have pe := he s3 H3 C cl fp
  generalize compEnvC scope cl C X.env = ce at *
  have loop : codeAny (model X.prog X.w) X.A (.compLoop (.SetComp elt [⟨tg, iter, ifs, 0⟩] scope pos) 0 (.ref it) (.ref D) ce) R s4 := by
    refine PpSet.compLoopS_any (fun n r => ∃ i G, Inv (X.blk s3 H3 scope ce fp) [] (wipe σ (List.map (fun y : Str × Nat => y.2) own)) G r ∧ tn i r.heap ∧ (∀ b ∈ fp, G b = none) ∧ Wn i n G) ?_ m0 ⟨0, H3, I4, st4, n4, w0⟩
    rintro n r5 ⟨i, G5, J5, st5, n5, w5⟩
    rcases steps i n G5 w5 with ⟨stop, qq⟩ | ⟨go, Nxt, hNxt, step⟩
    · refine thnF (turns.done (X.blk s3 H3 scope ce fp) rfl rfl rfl hc i [] r5 _ G5 (fun _ _ => False) J5 (keepB (pins' := []) J5 n5) st5 stop) fun _ r6 ⟨hr, J6⟩ => ?_
      subst hr
      exact fin r6 G5 J6 qq
    · refine thnF (turns.item (X.blk s3 H3 scope ce fp) rfl rfl rfl hc i [] r5 _ G5 (fun _ _ => False) J5 (keepB (pins' := []) J5 n5) st5 go) fun _ r6 ⟨u, hr, more⟩ => ?_
      subst hr
      refine thnF more fun _ r7 ⟨x, G7, J7, rx, y7, st7, n7⟩ => ?_
      refine thnF (pg.run _ r7 _ G7 x u _ (J7.pinned (keepB (pins' := []) J7 n7) (turns.obj _ _ st7)) rx (step x G7 y7)) fun _ r8 ⟨τ, G8, J8, sameW, q8⟩ => ?_
      refine thnF (pt.run _ r8 τ G8 _ J8 q8) fun b r9 ⟨G9, J9, q9⟩ => ?_
      have close : ∀ {r : Shared} {G : Hp}, Inv (X.blk s3 H3 scope ce fp) ([] ++ pinsAt fp r7.heap) τ G r → Nxt G → ∃ m, m < n ∧ ∃ i G, Inv (X.blk s3 H3 scope ce fp) [] (wipe σ (List.map (fun y : Str × Nat => y.2) own)) G r ∧ tn i r.heap ∧ (∀ b ∈ fp, G b = none) ∧ Wn i m G := fun {r G} J nx => by
        obtain ⟨m', less, w'⟩ := hNxt G nx
        obtain ⟨c1, c2, c3⟩ := closeB turns J sameW st7
        exact ⟨m', less, i + 1, G, c1, c2, c3, w'⟩
      cases b with
      | false => exact close J9 (by simpa using q9)
      | true =>
        rw [if_pos rfl] at q9 ⊢
        refine thnF (pe.run _ r9 τ G9 _ J9 q9) fun z r10 ⟨yv, G10, J10, ry, k, S, n, ey, hD, hz, nx⟩ => ?_
        subst ey
        exact addI_ok (X := X.blk s3 H3 scope ce fp) rfl J10 ry hD hz fun _ r11 J11 => close J11 nx
  exact PpSet.codeAny_compStart_set loop (turns.self X.A 0 _ _ _ st4 loop)
theorem pe_scI2 (hc : X.calm = true) (hN : X.N.Nodup) (hi : PI X tg iter wi) (ok : BlkOk X.N X.env.scope scope own) (hv : ∀ i ∈ vs1, i ∈ own.map (·.2))
    (hg : ∀ (s : Shared) (H : Hp) (C : Addr) (cl : List (Str × Addr)) (fp : List Addr), PG (X.blk s H scope (compEnvC scope cl C X.env) fp) tg g)
    (ht : ∀ (s : Shared) (H : Hp) (C : Addr) (cl : List (Str × Addr)) (fp : List Addr), PTs (X.blk s H scope (compEnvC scope cl C X.env) fp) ifs tt)
    (hi1 : ∀ (s : Shared) (H : Hp) (C : Addr) (cl : List (Str × Addr)) (fp : List Addr), PI (X.blk s H scope (compEnvC scope cl C X.env) fp) tg1 iter1 wi1)
    (hg1 : ∀ (s : Shared) (H : Hp) (C : Addr) (cl : List (Str × Addr)) (fp : List Addr), PG (X.blk s H scope (compEnvC scope cl C X.env) fp) tg1 g1)
    (ht1 : ∀ (s : Shared) (H : Hp) (C : Addr) (cl : List (Str × Addr)) (fp : List Addr), PTs (X.blk s H scope (compEnvC scope cl C X.env) fp) ifs1 tt1)
    (he : ∀ (s : Shared) (H : Hp) (C : Addr) (cl : List (Str × Addr)) (fp : List Addr), PE (X.blk s H scope (compEnvC scope cl C X.env) fp) elt te) (hfs : ∀ x, foldedSetIterable iter X.env x = pure x := by intro _; rfl) (hfs1 : ∀ env x, foldedSetIterable iter1 env x = pure x := by intro _ _; rfl) :
    PE X (.SetComp elt [⟨tg, iter, ifs, 0⟩, ⟨tg1, iter1, ifs1, 0⟩] scope pos) (tScI2 X.w wi g tt wi1 g1 tt1 te (List.map (fun y : Str × Nat => y.2) own) vs1) := by
  refine ⟨fun pins s σ H Q I h => ?_⟩
  rw [PpSet.eval_SetComp]
  refine sc_frame (T := bodyI2 X.w g tt wi1 g1 tt1 te (List.map (fun y : Str × Nat => y.2) own) vs1 σ Q) rfl hN I hi ok hfs h ?_
  rintro it D C fp tn J s3 s4 H3 cl R turns I4 st4 n4 ⟨Wn, ⟨m0, w0⟩, steps⟩ fin
  have pg := hg s3 H3 C cl fp
  have pt := ht s3 H3 C cl fp
  have pi1 := hi1 s3 H3 C cl fp
  have pg1 := hg1 s3 H3 C cl fp
  have pt1 := ht1 s3 H3 C cl fp
  have pe := he s3 H3 C cl fp
  generalize compEnvC scope cl C X.env = ce at *
  have loop : codeAny (model X.prog X.w) X.A (.compLoop (two elt tg iter ifs tg1 iter1 ifs1 scope pos) 0 (.ref it) (.ref D) ce) R s4 := by
    refine compLoopS2_out (hfs1 ce) (fun n r => ∃ i G, Inv (X.blk s3 H3 scope ce fp) [] (wipe σ (List.map (fun y : Str × Nat => y.2) own)) G r ∧ tn i r.heap ∧ (∀ b ∈ fp, G b = none) ∧ Wn i n G) ?_ m0 ⟨0, H3, I4, st4, n4, w0⟩
    rintro n r5 ⟨i, G5, J5, st5, n5, w5⟩
    rcases steps i n G5 w5 with ⟨stop, qq⟩ | ⟨go, Nxt, hNxt, step⟩
    · refine thnF (turns.done (X.blk s3 H3 scope ce fp) rfl rfl rfl hc i [] r5 _ G5 (fun _ _ => False) J5 (keepB (pins' := []) J5 n5) st5 stop) fun _ r6 ⟨hr, J6⟩ => ?_
      subst hr
      exact fin r6 G5 J6 qq
    · refine thnF (turns.item (X.blk s3 H3 scope ce fp) rfl rfl rfl hc i [] r5 _ G5 (fun _ _ => False) J5 (keepB (pins' := []) J5 n5) st5 go) fun _ r6 ⟨u, hr, more⟩ => ?_
      subst hr
      refine thnF more fun _ r7 ⟨x, G7, J7, rx, y7, st7, n7⟩ => ?_
      refine thnF (pg.run _ r7 _ G7 x u _ (J7.pinned (keepB (pins' := []) J7 n7) (turns.obj _ _ st7)) rx (step x G7 y7)) fun _ r8 ⟨τ, G8, J8, sameW, q8⟩ => ?_
      refine thnF (pt.run _ r8 τ G8 _ J8 q8) fun b r9 ⟨G9, J9, q9⟩ => ?_
      have close : ∀ {r : Shared} {G : Hp} {τ' : L2.St}, Inv (X.blk s3 H3 scope ce fp) ([] ++ pinsAt fp r7.heap) τ' G r → wipe τ' (List.map (fun y : Str × Nat => y.2) own) = wipe σ (List.map (fun y : Str × Nat => y.2) own) → Nxt G → ∃ m, m < n ∧ ∃ i G, Inv (X.blk s3 H3 scope ce fp) [] (wipe σ (List.map (fun y : Str × Nat => y.2) own)) G r ∧ tn i r.heap ∧ (∀ b ∈ fp, G b = none) ∧ Wn i m G := fun {r G τ'} J sw nx => by
        obtain ⟨m', less, w'⟩ := hNxt G nx
        obtain ⟨c1, c2, c3⟩ := closeB turns J sw st7
        exact ⟨m', less, i + 1, G, c1, c2, c3, w'⟩
      cases b with
      | false => exact close J9 sameW (by simpa using q9)
      | true =>
        rw [if_pos rfl] at q9 ⊢
        refine thnF (pi1.run _ r9 τ G9 _ J9 q9) fun xv r10 made1 => thnF made1 fun itv r11 made2 => ?_
        obtain ⟨it1, fp1, tn1, J1, G11, rfl, K11, turns1, st11, f11, W1, ⟨k0, w1⟩, steps1⟩ := made2
        have sw : wipe (wipe τ vs1) (List.map (fun y : Str × Nat => y.2) own) = wipe τ (List.map (fun y : Str × Nat => y.2) own) := wipe_sub hv
        have keep1 : ∀ {G : Hp}, (∀ b ∈ fp1, G b = none) → ∀ b ∈ fp1, FpOk (X.blk s3 H3 scope ce fp) ([] ++ pinsAt fp r7.heap) G b := fun {G} no b hb => ⟨no b hb, (f11 b hb).2⟩
        have loop1 : codeAny (model X.prog X.w) X.A (.compLoop (two elt tg iter ifs tg1 iter1 ifs1 scope pos) 1 (.ref it1) (.ref D) ce) (fun r s' => match r with
                  | .ok _ => ∃ m, m < n ∧ ∃ i G, Inv (X.blk s3 H3 scope ce fp) [] (wipe σ (List.map (fun y : Str × Nat => y.2) own)) G s' ∧ tn i s'.heap ∧ (∀ b ∈ fp, G b = none) ∧ Wn i m G
                  | .error _ => False) r11 := by
          refine compLoopS2_in (fun k r => ∃ j G, Inv (X.blk s3 H3 scope ce fp) ([] ++ pinsAt fp r7.heap) (wipe τ vs1) G r ∧ tn1 j r.heap ∧ (∀ b ∈ fp1, G b = none) ∧ W1 j k G) ?_ k0 ⟨0, G11, Inv.weak K11 (by rw [wipe_length]) (fun j v z => (wipe_some z).1), st11, fun b hb => (f11 b hb).1, w1⟩
          rintro k r12 ⟨j, G12, J12, st12, n12, w12⟩
          rcases steps1 j k G12 w12 with ⟨stop1, qq1⟩ | ⟨go1, Nxt1, hNxt1, step1⟩
          · refine thnF (turns1.done (X.blk s3 H3 scope ce fp) rfl rfl rfl hc j _ r12 _ G12 (fun _ _ => False) J12 (keep1 n12) st12 stop1) fun _ r13 ⟨hr, J13⟩ => ?_
            subst hr
            exact close J13 (sw.trans sameW) qq1
          · refine thnF (turns1.item (X.blk s3 H3 scope ce fp) rfl rfl rfl hc j _ r12 _ G12 (fun _ _ => False) J12 (keep1 n12) st12 go1) fun _ r13 ⟨u, hr, more⟩ => ?_
            subst hr
            refine thnF more fun _ r14 ⟨x, G14, J14, rx, y14, st14, n14⟩ => ?_
            refine thnF (pg1.run _ r14 _ G14 x u _ (J14.pinned (keep1 n14) (turns1.obj _ _ st14)) rx (step1 x G14 y14)) fun _ r15 ⟨τ2, G15, J15, sameW2, q15⟩ => ?_
            refine thnF (pt1.run _ r15 τ2 G15 _ J15 q15) fun b r16 ⟨G16, J16, q16⟩ => ?_
            have close1 : ∀ {r : Shared} {G : Hp}, Inv (X.blk s3 H3 scope ce fp) (([] ++ pinsAt fp r7.heap) ++ pinsAt fp1 r14.heap) τ2 G r → Nxt1 G → ∃ m, m < k ∧ ∃ j G, Inv (X.blk s3 H3 scope ce fp) ([] ++ pinsAt fp r7.heap) (wipe τ vs1) G r ∧ tn1 j r.heap ∧ (∀ b ∈ fp1, G b = none) ∧ W1 j m G := fun {r G} J nx => by
              obtain ⟨m', less, w'⟩ := hNxt1 G nx
              obtain ⟨c1, c2, c3⟩ := closeB turns1 J sameW2 st14
              exact ⟨m', less, j + 1, G, c1, c2, c3, w'⟩
            cases b with
            | false => exact close1 J16 (by simpa using q16)
            | true =>
              rw [if_pos rfl] at q16 ⊢
              refine thnF (pe.run _ r16 τ2 G16 _ J16 q16) fun z r17 ⟨yv, G17, J17, ry, k, S, n, ey, hD, hz, nx⟩ => ?_
              subst ey
              exact addI_ok (X := X.blk s3 H3 scope ce fp) rfl J17 ry hD hz fun _ r18 J18 => close1 J18 nx
        exact compStartS1_ok loop1 (turns1.self X.A 0 _ _ _ st11 loop1)
  exact PpSet.codeAny_compStart_set loop (turns.self X.A 0 _ _ _ st4 loop)
end
end SetW
set_option Elab.async false
set_option linter.all false
set_option maxRecDepth 100000
set_option maxHeartbeats 4000000
/-! sets of ints over values: comprehensions, set(x), sorted(s), len(s); a range with a step -/
namespace VL
open PySem PySem.Spec PyProof.Rows L2 XR SetW
/-- a set of ints: its members, each once, as they came -/
def tSet (w : World) (ns : List Int) : T := .ho fun a => SetO w a (fun j => decide (j ∈ ns)) ns.length
def addS (ns : List Int) (k : Int) : List Int := if k ∈ ns then ns else ns ++ [k]
theorem addS_mem {ns : List Int} {k j : Int} : j ∈ addS ns k ↔ j ∈ ns ∨ j = k := by
  unfold addS
  by_cases h : k ∈ ns
  · rw [if_pos h]
    exact ⟨.inl, fun z => by rcases z with z | rfl; exact z; exact h⟩
  · rw [if_neg h, List.mem_append, List.mem_singleton]
theorem addS_nodup {ns : List Int} {k : Int} (h : ns.Nodup) : (addS ns k).Nodup := by
  unfold addS
  by_cases m : k ∈ ns
  · rw [if_pos m]; exact h
  · rw [if_neg m, List.nodup_append]
    exact ⟨h, by simp, fun a ha b hb => by rw [List.mem_singleton.mp hb]; exact fun z => m (z ▸ ha)⟩
theorem addS_len {ns : List Int} {k : Int} : (addS ns k).length ≤ ns.length + 1 := by
  unfold addS
  split
  · exact Nat.le_succ _
  · rw [List.length_append]; exact Nat.le_refl _
/-- in order, each once -/
def srtD (ns : List Int) : List Int := srtI (ns.foldl addS [])
theorem foldS_mem {j : Int} : ∀ (ns acc : List Int), j ∈ ns.foldl addS acc ↔ j ∈ acc ∨ j ∈ ns
  | [], acc => by simp
  | n :: ns, acc => by
    rw [List.foldl_cons, foldS_mem ns, addS_mem, List.mem_cons, or_assoc]
theorem foldS_nodup : ∀ (ns acc : List Int), acc.Nodup → (ns.foldl addS acc).Nodup
  | [], acc, h => h
  | n :: ns, acc, h => foldS_nodup ns _ (addS_nodup h)
theorem foldS_len : ∀ (ns acc : List Int), (ns.foldl addS acc).length ≤ acc.length + ns.length
  | [], acc => Nat.le_refl _
  | n :: ns, acc => by
    have h := foldS_len ns (addS acc n)
    have h2 := addS_len (ns := acc) (k := n)
    rw [List.foldl_cons, List.length_cons]
    omega
theorem srtD_mem {ns : List Int} {j : Int} : j ∈ srtD ns ↔ j ∈ ns := by
  unfold srtD
  rw [(srtI_perm _).mem_iff, foldS_mem]
  simp
theorem lt_uniq {l m : List Int} (h1 : l.Pairwise (· < ·)) (h2 : m.Pairwise (· < ·)) (h : ∀ k, k ∈ l ↔ k ∈ m) : l = m := by
  have n1 : l.Nodup := h1.imp fun h => Int.ne_of_lt h
  have n2 : m.Nodup := h2.imp fun h => Int.ne_of_lt h
  exact ord_uniq (r := fun a b : Int => a ≤ b) (fun a b => Int.le_antisymm) ((List.perm_ext_iff_of_nodup n1 n2).mpr h) (h1.imp Int.le_of_lt) (h2.imp Int.le_of_lt)
theorem srtD_lt (ns : List Int) : (srtD ns).Pairwise (· < ·) := lt_of (srtI_ord _) ((srtI_perm _).nodup_iff.mpr (foldS_nodup ns [] List.nodup_nil))
theorem srtD_uniq {ms ns : List Int} (o : ms.Pairwise (· < ·)) (h : ∀ k, k ∈ ms ↔ k ∈ ns) : ms = srtD ns := lt_uniq o (srtD_lt ns) fun k => (h k).trans srtD_mem.symm
theorem srtI_nodup {ns : List Int} (h : ns.Nodup) : srtI ns = srtD ns := srtD_uniq (lt_of (srtI_ord _) ((srtI_perm _).nodup_iff.mpr h)) fun k => (srtI_perm _).mem_iff
/-! ### rules -/
section
variable {X : Cx}
def rSetL (K : PySem.W.Frag) (w : World) : List V → Hp → VK → Prop := fun vs H Q => ∃ (a : Addr) (ns : List Int), vs = [V.ref a] ∧ SqL K H a (ns.map V.int) ∧ ns.length + 1 < scanBound ∧ ∀ (p : Addr) (c : Nat), H p = none → c = (ns.foldl addS []).length → Q (.ref p) (upd H p (SetO w p (fun j => decide (j ∈ ns)) c))
theorem cnt_of {w : World} {h : Heap} {a : Addr} {ns : List Int} {c : Nat} (hs : SetR w h a (fun j => decide (j ∈ ns)) c) : c = (ns.foldl addS []).length := by
  obtain ⟨o, es, ep, t, ho, hx, hd, ge, nd, mem, lt, fits, en, ris, led⟩ := hs
  have p : (es.toList.map keyOf).Perm (ns.foldl addS []) := (List.perm_ext_iff_of_nodup nd (foldS_nodup ns [] List.nodup_nil)).mpr fun k => by
    rw [foldS_mem, ← mem, decide_eq_true_eq]
    simp
  rw [← en, ← p.length_eq, List.length_map]
  simp
theorem drew {pins : List (Addr × Obj)} {σ : L2.St} {H : Hp} {h : Heap} {g : Array GenState} {d d' : Drawn} {t t' : Nat} {o : OsState} (J : Inv X pins σ H ⟨h, g, d, t, o⟩) : Inv X pins σ H ⟨h, g, d', t', o⟩ := ⟨J.ok, J.os, J.bare, J.base, J.loc, J.cell, J.free, J.freeC, J.pin, J.hok, J.len⟩
theorem cr_setL (hc : X.calm = true) : CallR X (.type "set") (rSetL X.K X.w) := by
  intro pins s σ H vs us Q I r h
  obtain ⟨a, ns, rfl, hs, hn, q⟩ := h
  obtain ⟨its, rv, hl, hz⟩ := I.list hs
  obtain ⟨u, rfl, ru⟩ := vals1 r
  obtain rfl : u = Value.ref a := ru
  have iv : IntsAre its.toArray.toList ns := ints_vals rv
  refine set_list ns (I.ok.hd hc) hl.isList iv hn fun h' tk c hr hc kp => ?_
  have hd : H s.heap.objs.size = none := I.hok.fresh (Nat.le_refl _)
  exact ⟨.ref s.heap.objs.size, _, I.laid (t' := tk) kp (Nat.le_refl _) (setO_new hr), rfl, q _ c hd (cnt_of hr)⟩
def rSortedSetA (w : World) : List V → Hp → VK → Prop := fun vs H Q => ∃ (a : Addr) (S : Int → Bool) (n : Nat), vs = [V.ref a] ∧ H a = some (SetO w a S n) ∧ ∀ (ns : List Int) (p : Addr), ns.Pairwise (· < ·) → (∀ k : Int, k ∈ ns ↔ S k = true) → H p = none → Q (.ref p) (upd H p (.lst (ns.map V.int)))
theorem cr_sortedSetA (hc : X.calm = true) : CallR X (.builtin "sorted") (rSortedSetA X.w) := by
  intro pins s σ H vs us Q I r h
  obtain ⟨a, S, n, rfl, hs, q⟩ := h
  obtain ⟨u, rfl, ru⟩ := vals1 r
  obtain rfl : u = Value.ref a := ru
  have sr := setO_get I hs
  have hn : n ≤ sizeLine := by
    obtain ⟨o, es, ep, t, ho, hx, hd, ge, nd, mem, lt, fits, en, ris, led⟩ := sr
    rw [← en, sizeLine_eq]
    have : scanBound = 4096 := rfl
    omega
  refine SetW.sorted_set sr (I.ok.hd hc) hn fun s' p out c ns kp eg eo szl hp iv od mem len => ?_
  obtain ⟨h', g', d', t', o'⟩ := s'
  cases eg
  cases eo
  have ln : out.toList.length = ns.length := ints_len iv
  have J := I.laid (t' := t') (a := p) (o := .lst (ns.map V.int)) kp szl ⟨by rw [List.length_map, len]; exact hn, out.toList, c, vals_ints iv, by simpa using hp⟩
  exact ⟨.ref p, _, drew J, rfl, q ns p od mem (I.hok.fresh szl)⟩
variable {K : PySem.W.Frag} {w : World}
theorem call_setL (e : X.K = K) (ew : X.w = w) (hc : X.calm = true) : CallR X (.type "set") (rSetL K w) := e ▸ ew ▸ cr_setL hc
theorem call_sortedSet (ew : X.w = w) (hc : X.calm = true) : CallR X (.builtin "sorted") (rSortedSetA w) := ew ▸ cr_sortedSetA hc
end
/-! ### readings -/
section
variable {K : PySem.W.Frag} {B : Bs} {E : L2.St → XK} {w : World}
theorem ho_any {as : List Addr} {γ : Env} {σ : L2.St} {G H : Hp} {v : V} {o : Addr → HO} (S : StR K B as γ σ G H) (z : Rp K G v (.ho o) ∨ ∃ a, v = .ref a ∧ MutR K G H a (.ho o)) : ∃ a, v = .ref a ∧ H a = some (o a) := by
  rcases z with z | ⟨a, rfl, z⟩
  · cases z with | ho e => exact ⟨_, rfl, S.vw _ _ e⟩
  · exact ⟨a, rfl, z⟩
theorem knewO {as : List Addr} {γ : Env} {σ : L2.St} {G H : Hp} {Q : VK} {Qv : RQ} {p : Addr} {o : HO} {t : T} (k : KontP K B as σ G (rR K B) Q Qv) (S : StR K B as γ σ G H) (q : MutR K G (L2.upd H p o) p t) (h : Qv (.ref γ.mem.length) (γ.push (.mu t))) (hn : H p = none) : Q (V.ref p) (upd H p o) := by
  have S2 := S.alloc (t := t) hn q
  exact k (.ref γ.mem.length) _ _ _ _ _ (List.prefix_append _ _) (Same.refl _) S2 ⟨p, by rw [← S.mlen, List.getElem?_append_right (Nat.le_refl _), Nat.sub_self]; rfl, rfl⟩ h
def vSortedSet (w : World) : List Rf → VW := look1 fun t Q γ => ∃ ns : List Int, t = tSet w ns ∧ γ.new (.lst ((srtD ns).map T.int)) Q
instance : VC K B E (rSortedSetA w) (vSortedSet w) where
  run := fun {as γ σ G H vs rs Q Qv Xv} S r1 h k _ => by
    obtain ⟨v, t, rfl, z, ns, rfl, h⟩ := look1_ok S r1 h
    obtain ⟨a, rfl, e⟩ := ho_any S z
    refine ⟨a, _, _, rfl, e, fun ms p ho hm hn => ?_⟩
    rw [srtD_uniq ho fun j => (hm j).trans (by rw [decide_eq_true_eq])]
    exact knew k S (ints_rp _) h hn
/-- the members of a list, each once -/
def setOf (ns : List Int) : List Int := ns.foldl addS []
theorem setOf_mem {ns : List Int} {j : Int} : j ∈ setOf ns ↔ j ∈ ns := by unfold setOf; rw [foldS_mem]; simp
theorem set_fn (ns : List Int) : (fun j => decide (j ∈ ns)) = fun j => decide (j ∈ setOf ns) := funext fun j => decide_eq_decide.mpr setOf_mem.symm
def vSetL (w : World) : List Rf → VW := look1 fun t Q γ => match t with
  | .lst ts => ∃ ns : List Int, ts = ns.map T.int ∧ ns.length < 4000 ∧ γ.new (tSet w (setOf ns)) Q
  | _ => False
instance : VC K B E (rSetL K w) (vSetL w) where
  run := fun {as γ σ G H vs rs Q Qv Xv} S r1 h k _ => by
    obtain ⟨v, t, rfl, z, h⟩ := look1_ok S r1 h
    split at h
    · obtain ⟨ns, rfl, hl, h⟩ := h
      obtain ⟨a, acc, rfl, e, rp⟩ := lst_any S z
      refine ⟨a, ns, rfl, by rw [← ints_inv rp]; exact SqL.of e, by show _ < 4096; omega, fun p c hn ec => ?_⟩
      refine knewO (t := tSet w (setOf ns)) k S ?_ h hn
      show upd H p _ p = some _
      rw [upd_same, ec, set_fn]
      rfl
    · exact h.elim
/-! ### a range with a step -/
def rngC (lo c : Int) (n : Nat) : List T := (List.range n).map fun i => .int (lo + (i : Nat) * c)
theorem rngC_at {lo c : Int} {n i : Nat} {t : T} (h : (rngC lo c n)[i]? = some t) : i < n ∧ t = .int (lo + (i : Nat) * c) := by
  unfold rngC at h
  have hl : i < n := by
    rcases Nat.lt_or_ge i n with z | z
    · exact z
    · rw [List.getElem?_eq_none (by simpa using z)] at h; cases h
  rw [List.getElem?_map, List.getElem?_range hl] at h
  exact ⟨hl, (Option.some.inj h).symm⟩
theorem rngC_len {lo c : Int} {n : Nat} : (rngC lo c n).length = n := by simp [rngC]
theorem src_rngC {as0 : List Addr} {G0 : Hp} {lo c : Int} {n : Nat} : SrcOk K B as0 G0 (Itc lo c n) (.fix (rngC lo c n)) := fun {as γ σ G H} _ g S _ => by
  have hl : (Src.fix (rngC lo c n)).ts.length = n := rngC_len
  rw [hl]
  refine ⟨fun i hi => hi, Nat.le_refl _, fun i x H' hi y => ?_⟩
  obtain ⟨rfl, rfl⟩ := y
  refine ⟨G, .int (lo + (i : Nat) * c), ?_, Same.refl _, S, .int _⟩
  show (rngC lo c n)[i]? = _
  unfold rngC
  rw [List.getElem?_map, List.getElem?_range hi]
  rfl
/-- how many steps -/
def stepN (i j c : Int) : Nat := if i < j then ((j - i - 1) / c + 1).toNat else 0
theorem rgc {i j c : Int} (h1 : 1 ≤ c) (h2 : c < 2 ^ 30) (h3 : -(2 ^ 61) ≤ i) (h4 : i < 2 ^ 61) (h5 : -(2 ^ 61) ≤ j) (h6 : j < 2 ^ 61) : RgC i j c (stepN i j c) := by
  have e : Builtin.Range.rangeSize i j c = (stepN i j c : Int) := by
    unfold Builtin.Range.rangeSize stepN
    rw [if_pos (by omega)]
    split
    · have := Int.ediv_nonneg (show 0 ≤ j - i - 1 by omega) (show 0 ≤ c by omega)
      omega
    · rfl
  have b : (stepN i j c : Int) < 2 ^ 62 + 1 := by
    unfold stepN
    split
    · have h0 := Int.ediv_nonneg (show 0 ≤ j - i - 1 by omega) (show 0 ≤ c by omega)
      have h1 := Int.ediv_le_self c (show 0 ≤ j - i - 1 by omega)
      omega
    · decide
  have b0 : (0 : Int) ≤ (stepN i j c : Int) := Int.natCast_nonneg _
  refine ⟨by omega, by omega, ?_, e⟩
  unfold Builtin.Range.small
  rw [e]
  have fl : ∀ z : Int, -(2 ^ 63) ≤ z → z < 2 ^ 63 → Builtin.Range.rangeFitsLong z = true := fun z z1 z2 => by
    unfold Builtin.Range.rangeFitsLong
    simp only [Bool.and_eq_true, decide_eq_true_eq]
    omega
  rw [fl i (by omega) (by omega), fl j (by omega) (by omega), fl c (by omega) (by omega), fl _ (by omega) (by omega), if_pos (by omega), fl (j + (c - 1)) (by omega) (by omega)]
  simp
def vRng3 (wa : Env → (List Rf → Env → Prop) → XQ → Prop) : Env → (Src → Env → Prop) → XQ → Prop := fun γ Q X => wa γ (fun rs γ1 => intsQ rs γ1 fun is => match is with
  | [i, j, c] => (1 ≤ c ∧ c < 2 ^ 30 ∧ -(2 ^ 61) ≤ i ∧ i < 2 ^ 61 ∧ -(2 ^ 61) ≤ j ∧ j < 2 ^ 61) ∧ Q (.fix (rngC i c (stepN i j c))) γ1
  | _ => False) X
instance {ta : TA} {wa : Env → (List Rf → Env → Prop) → XQ → Prop} [ha : VA K B E ta wa] : VI K B E (iRng3 ta) (vRng3 wa) where
  run := fun {as γ σ G H R Qv Xv} S h k kx => by
    refine ha.run S h (fun rs γ1 as1 vs G1 H1 p1 g1 S1 rr1 q1 => ?_) kx
    obtain ⟨is, rfl, q⟩ := intsQ_ok S1 rr1 q1
    split at q
    · obtain ⟨⟨h1, h2, h3, h4, h5, h6⟩, q⟩ := q
      exact ⟨_, _, _, _, rfl, rgc h1 h2 h3 h4 h5 h6, k _ _ _ _ _ _ p1 g1 S1 src_rngC q⟩
    · exact q.elim
end
end VL
set_option Elab.async false
set_option linter.all false
set_option maxRecDepth 100000
set_option maxHeartbeats 4000000
/-! set comprehensions of ints, over values -/
namespace VL
open PySem PySem.Spec PyProof.Rows L2 XR SetW
structure LsI (src : Src) (w : World) (γ1 : Env) (vs : List Nat) (step : T → Env → (Env → Prop) → Prop) (Q : RQ) : Prop where
  ex : ∃ I : Nat → Env → Prop, (∃ γ2, Le (γ1.mem.length + 1) ((γ1.push (.mu (tSet w []))).wipe vs) γ2 ∧ I 0 γ2) ∧ (∀ i γ2, I i γ2 → src.on γ2) ∧
    (∀ i t γ2, src.ts[i]? = some t → I i γ2 → step t (γ2.wipe vs) fun γ4 => ∃ γ5, Le (γ1.mem.length + 1) (γ4.wipe vs) γ5 ∧ I (i + 1) γ5) ∧ ∀ γ2, I src.ts.length γ2 → Q (.ref γ1.mem.length) γ2
/-- the value goes into the open set k -/
def putSQ (w : World) (k : Nat) (r : Rf) (γ : Env) (Q : Env → Prop) : Prop := peek r γ fun t => match t with
  | .int i => ∃ ns : List Int, nth γ.mem k = some (.mu (tSet w ns)) ∧ ns.length < 4000 ∧ Q (γ.put k (.mu (tSet w (addS ns i))))
  | _ => False
theorem putS_ok {K : PySem.W.Frag} {B : Bs} {w : World} {as : List Addr} {γ : Env} {σ : L2.St} {G H : Hp} {k : Nat} {a : Addr} {r : Rf} {v : V} {Q : Env → Prop} {N : Hp → Prop} (S : StR K B as γ σ G H) (ea : as[k]? = some a) (rr : RR K B.ex as G r v) (h : putSQ w k r γ Q)
    (fin : ∀ γ' H', StR K B as γ' σ G H' → Q γ' → N H') : SetW.addQ w a N v H := by
  unfold putSQ at h
  obtain ⟨t, h, z⟩ := peek_ok S rr h
  split at h
  · rename_i i
    obtain ⟨ns, e, hl, h⟩ := h
    rw [nth_eq] at e
    obtain ⟨_, m⟩ := S.mem k a _ ea e
    have m : H a = some (SetO w a (fun j => decide (j ∈ ns)) ns.length) := m
    refine ⟨i, _, _, int_any z, m, by show _ < 4096; omega, ?_⟩
    have fn : SetO w a (fun j => decide (j ∈ ns) || decide (j = i)) (if decide (i ∈ ns) = true then ns.length else ns.length + 1) = SetO w a (fun j => decide (j ∈ addS ns i)) (addS ns i).length := by
      have e1 : (fun j : Int => decide (j ∈ ns) || decide (j = i)) = fun j => decide (j ∈ addS ns i) := funext fun j => by
        rw [Bool.eq_iff_iff, Bool.or_eq_true, decide_eq_true_eq, decide_eq_true_eq, decide_eq_true_eq, addS_mem]
      have e2 : (if decide (i ∈ ns) = true then ns.length else ns.length + 1) = (addS ns i).length := by
        unfold addS
        by_cases hm : i ∈ ns
        · rw [if_pos (decide_eq_true hm), if_pos hm]
        · rw [if_neg (by simpa using hm), if_neg hm, List.length_append]; rfl
      rw [e1, e2]
    rw [fn]
    exact fin _ _ (S.write (t := tSet w (addS ns i)) e ea (show L2.upd H a _ a = some _ from upd_same)) h
  · exact h.elim
def vScI (w : World) (wi : Env → (Src → Env → Prop) → XQ → Prop) (wg : Rf → Env → (Env → Prop) → XQ → Prop) (wt : Env → (Bool → Env → Prop) → XQ → Prop) (we : VW) (vs : List Nat) : VW := fun γ Q X => wi γ (fun src γ1 =>
  LsI src w γ1 vs (fun t γ2 N => wg (.val t) γ2 (fun γ3 => wt γ3 (fun c γ4 => br c (we γ4 (fun r γ5 => putSQ w γ1.mem.length r γ5 N) noX) (N γ4)) noX) noX) Q) X
def vScI2 (w : World) (wi : Env → (Src → Env → Prop) → XQ → Prop) (wg : Rf → Env → (Env → Prop) → XQ → Prop) (wt : Env → (Bool → Env → Prop) → XQ → Prop) (wi1 : Env → (Src → Env → Prop) → XQ → Prop) (wg1 : Rf → Env → (Env → Prop) → XQ → Prop) (wt1 : Env → (Bool → Env → Prop) → XQ → Prop) (we : VW) (vs vs1 : List Nat) : VW := fun γ Q X => wi γ (fun src γ1 =>
  LsI src w γ1 vs (fun t γ2 N => wg (.val t) γ2 (fun γ3 => wt γ3 (fun c γ4 => br c (wi1 γ4 (fun src1 γ5 => LcJ src1 γ5.mem.length γ5 vs1 (fun t1 γ6 N1 => wg1 (.val t1) γ6 (fun γ7 => wt1 γ7 (fun c1 γ8 => br c1 (we γ8 (fun r γ9 => putSQ w γ1.mem.length r γ9 N1) noX) (N1 γ8)) noX) noX) N) noX) (N γ4)) noX) noX) Q) X
theorem set0 {w : World} {a : Addr} {H : Hp} : L2.upd H a (SetO w a (fun _ => false) 0) a = some (SetO w a (fun j => decide (j ∈ ([] : List Int))) ([] : List Int).length) := by
  rw [upd_same]
  have : (fun _ : Int => false) = fun j => decide (j ∈ ([] : List Int)) := funext fun j => by simp
  rw [this]; rfl
section
variable {K : PySem.W.Frag} {B : Bs} {E : L2.St → XK} {w : World}
instance {wi : TI} {g : TG} {tt : TT} {te : TE} {vs is : List Nat} {vi : Env → (Src → Env → Prop) → XQ → Prop} {vg : Rf → Env → (Env → Prop) → XQ → Prop} {vt : Env → (Bool → Env → Prop) → XQ → Prop} {ve : VW} [hi : VI K B E wi vi] [hg : VG K B E g vg is] [ht : VT K B E tt vt] [he : VE K B E te ve] [hs : SubL is vs] :
    VE K B E (tScI w wi g tt te vs) (vScI w vi vg vt ve vs) where
  run := fun {as γ σ G H Q Qv Xv} S h k kx => by
    refine hi.run S h (fun src γ1 as1 G1 H1 J p1 g1 S1 ok q1 => ?_) kx
    intro Da hD
    obtain ⟨⟨I, ⟨γ0, le0, i0⟩, on, step, done⟩⟩ := q1
    have SD := (S1.alloc (t := tSet w []) (o := SetO w Da (fun _ => false) 0) hD set0)
    have lD : (as1 ++ [Da]).length = γ1.mem.length + 1 := by rw [List.length_append, S1.mlen]; rfl
    have aD : (as1 ++ [Da])[γ1.mem.length]? = some Da := by rw [← S1.mlen, List.getElem?_append_right (Nat.le_refl _), Nat.sub_self]; rfl
    obtain ⟨as0, G0, pp0, gg0, SS0⟩ := StR.le le0 (SD.wipe vs) (List.prefix_refl _) lD
    refine ⟨fun i m H' => m = src.ts.length - i ∧ i ≤ src.ts.length ∧ ∃ as' γ' G', as1 ++ [Da] <+: as' ∧ Same G1 G' ∧ StR K B as' γ' σ G' H' ∧ I i γ', ⟨_, rfl, Nat.zero_le _, as0, γ0, G0, pp0, gg0, SS0, i0⟩, ?_⟩
    rintro i m H' ⟨rfl, hi', as', γ', G', p', g', S', inv⟩
    have pq : as1 <+: as' := (List.prefix_append _ _).trans p'
    obtain ⟨go, stop, yld⟩ := ok pq g' S' (on i γ' inv)
    by_cases hlt : i < src.ts.length
    · refine .inr ⟨go i hlt, fun H'' => i + 1 ≤ src.ts.length ∧ ∃ as'' γ'' G'', as1 ++ [Da] <+: as'' ∧ Same G1 G'' ∧ StR K B as'' γ'' σ G'' H'' ∧ I (i + 1) γ'', fun H'' q => ⟨_, by omega, rfl, q.1, q.2⟩, fun x H'' hy => ?_⟩
      obtain ⟨G2, t, et, g2, S2, rp⟩ := yld i x H'' hlt hy
      have S2' : StR K B as' (γ'.wipe vs) (L2.wipe σ vs) G2 H'' := (S2.wipe vs).rewipe (vs := vs) (wipe_wipe σ vs) fun i r e => Env.wipe_none γ' e
      refine hg.run S2' (r := .val t) rp (step i t γ' et inv) (fun γ3 as3 σ3 G3 H3 p3 g3 S3 w3 q3 => ?_) kxno
      have ws : L2.wipe σ3 vs = L2.wipe σ vs := (w3 vs hs.h).trans (wipe_wipe σ vs)
      refine ⟨ws, ht.run S3 q3 (fun b γ4 as4 b' G4 H4 p4 g4 S4 e q4 => ?_) kxno⟩
      cases e
      have gG : Same G1 G4 := (g'.trans g2).trans (g3.trans g4)
      have pP : as1 ++ [Da] <+: as4 := p'.trans (p3.trans p4)
      have fin : ∀ {γ5 : Env} {as5 : List Addr} {G5 H5 : Hp}, Same G1 G5 → as1 ++ [Da] <+: as5 → StR K B as5 γ5 σ3 G5 H5 → (∃ γ6, Le (γ1.mem.length + 1) (γ5.wipe vs) γ6 ∧ I (i + 1) γ6) → i + 1 ≤ src.ts.length ∧ ∃ as'' γ'' G'', as1 ++ [Da] <+: as'' ∧ Same G1 G'' ∧ StR K B as'' γ'' σ G'' H5 ∧ I (i + 1) γ'' := by
        rintro γ5 as5 G5 H5 gg pp S5 ⟨γ6, le6, i6⟩
        have S6 : StR K B as5 (γ5.wipe vs) σ G5 H5 := (S5.wipe vs).rewipe (vs := vs) ws.symm fun i r e => Env.wipe_none γ5 e
        obtain ⟨as7, G7, p7, g7, S7⟩ := StR.le le6 S6 pp lD
        exact ⟨hlt, as7, γ6, G7, p7, gg.trans g7, S7, i6⟩
      cases b with
      | false => exact fin gG pP S4 q4
      | true =>
        refine he.run S4 q4 (fun r γ5 as5 v5 G5 H5 p5 g5 S5 rr5 q5 => ?_) kxno
        have pp : as1 ++ [Da] <+: as5 := pP.trans p5
        exact putS_ok S5 (pre_get pp aD) rr5 q5 fun γ' H' S9 q9 => fin (gG.trans g5) pp S9 q9
    · have e : i = src.ts.length := by omega
      subst e
      refine .inl ⟨stop, k (.ref γ1.mem.length) _ _ _ _ _ (p1.trans pq) (g1.trans g') S' ⟨Da, pre_get p' aD, rfl⟩ (done γ' inv)⟩
instance {wi wi1 : TI} {g g1 : TG} {tt tt1 : TT} {te : TE} {vs vs1 is is1 : List Nat} {vi vi1 : Env → (Src → Env → Prop) → XQ → Prop} {vg vg1 : Rf → Env → (Env → Prop) → XQ → Prop} {vt vt1 : Env → (Bool → Env → Prop) → XQ → Prop} {ve : VW} [hi : VI K B E wi vi] [hg : VG K B E g vg is] [ht : VT K B E tt vt] [hi1 : VI K B E wi1 vi1] [hg1 : VG K B E g1 vg1 is1] [ht1 : VT K B E tt1 vt1] [he : VE K B E te ve] [hs : SubL is vs] [hs1 : SubL is1 vs1] :
    VE K B E (tScI2 w wi g tt wi1 g1 tt1 te vs vs1) (vScI2 w vi vg vt vi1 vg1 vt1 ve vs vs1) where
  run := fun {as γ σ G H Q Qv Xv} S h k kx => by
    refine hi.run S h (fun src γ1 as1 G1 H1 J p1 g1 S1 ok q1 => ?_) kx
    intro Da hD
    obtain ⟨⟨I, ⟨γ0, le0, i0⟩, on, step, done⟩⟩ := q1
    have SD := (S1.alloc (t := tSet w []) (o := SetO w Da (fun _ => false) 0) hD set0)
    have lD : (as1 ++ [Da]).length = γ1.mem.length + 1 := by rw [List.length_append, S1.mlen]; rfl
    have aD : (as1 ++ [Da])[γ1.mem.length]? = some Da := by rw [← S1.mlen, List.getElem?_append_right (Nat.le_refl _), Nat.sub_self]; rfl
    obtain ⟨as0, G0, pp0, gg0, SS0⟩ := StR.le le0 (SD.wipe vs) (List.prefix_refl _) lD
    refine ⟨fun i m H' => m = src.ts.length - i ∧ i ≤ src.ts.length ∧ ∃ as' γ' G', as1 ++ [Da] <+: as' ∧ Same G1 G' ∧ StR K B as' γ' σ G' H' ∧ I i γ', ⟨_, rfl, Nat.zero_le _, as0, γ0, G0, pp0, gg0, SS0, i0⟩, ?_⟩
    rintro i m H' ⟨rfl, hi', as', γ', G', p', g', S', inv⟩
    have pq : as1 <+: as' := (List.prefix_append _ _).trans p'
    obtain ⟨go, stop, yld⟩ := ok pq g' S' (on i γ' inv)
    by_cases hlt : i < src.ts.length
    · refine .inr ⟨go i hlt, fun H'' => i + 1 ≤ src.ts.length ∧ ∃ as'' γ'' G'', as1 ++ [Da] <+: as'' ∧ Same G1 G'' ∧ StR K B as'' γ'' σ G'' H'' ∧ I (i + 1) γ'', fun H'' q => ⟨_, by omega, rfl, q.1, q.2⟩, fun x H'' hy => ?_⟩
      obtain ⟨G2, t, et, g2, S2, rp⟩ := yld i x H'' hlt hy
      have S2' : StR K B as' (γ'.wipe vs) (L2.wipe σ vs) G2 H'' := (S2.wipe vs).rewipe (vs := vs) (wipe_wipe σ vs) fun i r e => Env.wipe_none γ' e
      refine hg.run S2' (r := .val t) rp (step i t γ' et inv) (fun γ3 as3 σ3 G3 H3 p3 g3 S3 w3 q3 => ?_) kxno
      have ws : L2.wipe σ3 vs = L2.wipe σ vs := (w3 vs hs.h).trans (wipe_wipe σ vs)
      refine ⟨ws, ht.run S3 q3 (fun b γ4 as4 b' G4 H4 p4 g4 S4 e q4 => ?_) kxno⟩
      cases e
      have gG : Same G1 G4 := (g'.trans g2).trans (g3.trans g4)
      have pP : as1 ++ [Da] <+: as4 := p'.trans (p3.trans p4)
      have fin : ∀ {γ5 : Env} {as5 : List Addr} {G5 H5 : Hp}, Same G1 G5 → as1 ++ [Da] <+: as5 → StR K B as5 γ5 σ3 G5 H5 → (∃ γ6, Le (γ1.mem.length + 1) (γ5.wipe vs) γ6 ∧ I (i + 1) γ6) → i + 1 ≤ src.ts.length ∧ ∃ as'' γ'' G'', as1 ++ [Da] <+: as'' ∧ Same G1 G'' ∧ StR K B as'' γ'' σ G'' H5 ∧ I (i + 1) γ'' := by
        rintro γ5 as5 G5 H5 gg pp S5 ⟨γ6, le6, i6⟩
        have S6 : StR K B as5 (γ5.wipe vs) σ G5 H5 := (S5.wipe vs).rewipe (vs := vs) ws.symm fun i r e => Env.wipe_none γ5 e
        obtain ⟨as7, G7, p7, g7, S7⟩ := StR.le le6 S6 pp lD
        exact ⟨hlt, as7, γ6, G7, p7, gg.trans g7, S7, i6⟩
      cases b with
      | false => exact fin gG pP S4 q4
      | true =>
        refine hi1.run S4 q4 (fun src1 γ5 as5 G5 H5 J1 p5 g5 S5 ok1 q5 => ?_) kxno
        obtain ⟨⟨I1, ⟨γ6, le6, i6⟩, on1, step1, done1⟩⟩ := q5
        have pP5 : as1 ++ [Da] <+: as5 := pP.trans p5
        obtain ⟨as6, G6, p6, g6, S6⟩ := StR.le le6 (S5.wipe vs1) (List.prefix_refl _) S5.mlen
        refine ⟨fun j m H' => m = src1.ts.length - j ∧ j ≤ src1.ts.length ∧ ∃ as' γ' G', as5 <+: as' ∧ Same G5 G' ∧ StR K B as' γ' σ3 G' H' ∧ I1 j γ', ⟨_, rfl, Nat.zero_le _, as6, γ6, G6, p6, g6, S6, i6⟩, ?_⟩
        rintro j m H7 ⟨rfl, hj', as7, γ7, G7, p7, g7, S7, inv1⟩
        obtain ⟨go1, stop1, yld1⟩ := ok1 p7 g7 S7 (on1 j γ7 inv1)
        by_cases hlt1 : j < src1.ts.length
        · refine .inr ⟨go1 j hlt1, fun H'' => j + 1 ≤ src1.ts.length ∧ ∃ as'' γ'' G'', as5 <+: as'' ∧ Same G5 G'' ∧ StR K B as'' γ'' σ3 G'' H'' ∧ I1 (j + 1) γ'', fun H'' q => ⟨_, by omega, rfl, q.1, q.2⟩, fun x H8 hy => ?_⟩
          obtain ⟨G8, t8, et8, g8, S8, rp8⟩ := yld1 j x H8 hlt1 hy
          have S8' : StR K B as7 (γ7.wipe vs1) (L2.wipe σ3 vs1) G8 H8 := (S8.wipe vs1).rewipe (vs := vs1) (wipe_wipe σ3 vs1) fun i r e => Env.wipe_none γ7 e
          refine hg1.run S8' (r := .val t8) rp8 (step1 j t8 γ7 et8 inv1) (fun γ9 as9 σ9 G9 H9 p9 g9 S9 w9 q9 => ?_) kxno
          have ws1 : L2.wipe σ9 vs1 = L2.wipe σ3 vs1 := (w9 vs1 hs1.h).trans (wipe_wipe σ3 vs1)
          refine ⟨ws1, ht1.run S9 q9 (fun b γa asa b' Ga Ha pa ga Sa e qa => ?_) kxno⟩
          cases e
          have gA : Same G5 Ga := (g7.trans g8).trans (g9.trans ga)
          have pA : as5 <+: asa := p7.trans (p9.trans pa)
          have fin1 : ∀ {γb : Env} {asb : List Addr} {Gb Hb : Hp}, Same G5 Gb → as5 <+: asb → StR K B asb γb σ9 Gb Hb → (∃ γc, Le γ5.mem.length (γb.wipe vs1) γc ∧ I1 (j + 1) γc) → j + 1 ≤ src1.ts.length ∧ ∃ as'' γ'' G'', as5 <+: as'' ∧ Same G5 G'' ∧ StR K B as'' γ'' σ3 G'' Hb ∧ I1 (j + 1) γ'' := by
            rintro γb asb Gb Hb gg pp Sb ⟨γc, lec, ic⟩
            have Sc : StR K B asb (γb.wipe vs1) σ3 Gb Hb := (Sb.wipe vs1).rewipe (vs := vs1) ws1.symm fun i r e => Env.wipe_none γb e
            obtain ⟨asd, Gd, pd, gd, Sd⟩ := StR.le lec Sc pp S5.mlen
            exact ⟨hlt1, asd, γc, Gd, pd, gg.trans gd, Sd, ic⟩
          cases b with
          | false => exact fin1 gA pA Sa qa
          | true =>
            refine he.run Sa qa (fun r γb asb v5 Gb Hb pb gb Sb rrb qb => ?_) kxno
            have pp : as5 <+: asb := pA.trans pb
            exact putS_ok Sb (pre_get (pP5.trans pp) aD) rrb qb fun γ' H' Sd qd => fin1 (gA.trans gb) pp Sd qd
        · have e : j = src1.ts.length := by omega
          subst e
          exact .inl ⟨stop1, fin ((gG.trans g5).trans g7) (pP5.trans p7) S7 (done1 γ7 inv1)⟩
    · have e : i = src.ts.length := by omega
      subst e
      refine .inl ⟨stop, k (.ref γ1.mem.length) _ _ _ _ _ (p1.trans pq) (g1.trans g') S' ⟨Da, pre_get p' aD, rfl⟩ (done γ' inv)⟩
end
section
variable {γ1 : Env} {w : World} {vs : List Nat} {step : T → Env → (Env → Prop) → Prop} {Q : RQ} {β α : Type} {xs : List α} {f : α → T}
/-- the state with the new set -/
def ES (w : World) (γ1 : Env) (vs : List Nat) (ns : List Int) : Env := (γ1.push (.mu (tSet w ns))).wipe vs
theorem es_mk (n : Nat) (sl : List (Option Rf)) (mem : List MO) (vs : List Nat) (ns : List Int) : ES w ⟨n, sl, mem⟩ vs ns = Env.wipe ⟨n, sl, mem ++ [.mu (tSet w ns)]⟩ vs := rfl
@[irreducible] def NS (w : World) (γ1 : Env) (vs : List Nat) (I : List Int → Prop) (γ4 : Env) : Prop := ∃ γ5, Le (γ1.mem.length + 1) (γ4.wipe vs) γ5 ∧ ∃ ns, γ5 = ES w γ1 vs ns ∧ I ns
theorem NS.mk {I : List Int → Prop} {γ4 : Env} (ns : List Int) (l : Le (γ1.mem.length + 1) (γ4.wipe vs) (ES w γ1 vs ns)) (p : I ns) : NS w γ1 vs I γ4 := by
  unfold NS
  exact ⟨ES w γ1 vs ns, l, ns, rfl, p⟩
theorem ls_ts {ts : List T} (I : Nat → List Int → Prop) (i0 : I 0 []) (hs : ∀ i t ns, ts[i]? = some t → I i ns → step t ((ES w γ1 vs ns).wipe vs) (NS w γ1 vs (I (i + 1)))) (hd : ∀ ns, I ts.length ns → Q (.ref γ1.mem.length) (ES w γ1 vs ns)) : LsI (.fix ts) w γ1 vs step Q := by
  unfold NS at hs
  refine ⟨fun i γ => ∃ ns, γ = ES w γ1 vs ns ∧ I i ns, ⟨ES w γ1 vs [], .refl _, [], rfl, i0⟩, fun _ _ _ => trivial, fun i t γ2 e h => ?_, fun γ2 h => ?_⟩
  · obtain ⟨ns, rfl, p⟩ := h
    exact hs i t ns e p
  · obtain ⟨ns, rfl, p⟩ := h
    exact hd ns p
/-- by an invariant -/
theorem ls_mapI (I : Nat → List Int → Prop) (i0 : I 0 []) (hs : ∀ (i : Nat) x ns, xs[i]? = some x → I i ns → step (f x) ((ES w γ1 vs ns).wipe vs) (NS w γ1 vs (I (i + 1)))) (hd : ∀ ns, I xs.length ns → Q (.ref γ1.mem.length) (ES w γ1 vs ns)) : LsI (.fix (xs.map f)) w γ1 vs step Q := by
  refine ls_ts I i0 (fun i t ns e p => ?_) fun ns p => hd ns (by rw [List.length_map] at p; exact p)
  rw [List.getElem?_map] at e
  cases ex : xs[i]? with
  | none => rw [ex] at e; cases e
  | some x => rw [ex] at e; cases e; exact hs i x ns ex p
theorem ls_rngI {lo : Int} {n : Nat} (I : Nat → List Int → Prop) (i0 : I 0 []) (hs : ∀ i ns, i < n → I i ns → step (.int (lo + (i : Nat))) ((ES w γ1 vs ns).wipe vs) (NS w γ1 vs (I (i + 1)))) (hd : ∀ ns, I n ns → Q (.ref γ1.mem.length) (ES w γ1 vs ns)) : LsI (.fix (rngT lo n)) w γ1 vs step Q := by
  refine ls_ts I i0 (fun i t ns e p => ?_) fun ns p => hd ns (by rw [rngT_len] at p; exact p)
  obtain ⟨h, rfl⟩ := rngT_at e
  exact hs i ns h p
/-- the set is that of the values of a function over the list -/
theorem ls_map (h : α → Int) (hl : xs.length < 4000) (hs : ∀ (i : Nat) x ns, xs[i]? = some x → ns.length < 4000 → step (f x) ((ES w γ1 vs ns).wipe vs) (NS w γ1 vs fun o => o = addS ns (h x))) (hd : Q (.ref γ1.mem.length) (ES w γ1 vs (setOf (xs.map h)))) : LsI (.fix (xs.map f)) w γ1 vs step Q := by
  refine ls_mapI (fun i ns => i ≤ xs.length ∧ ns = setOf ((xs.take i).map h)) ⟨Nat.zero_le _, by rw [List.take_zero]; rfl⟩ (fun i x ns e p => ?_) fun ns p => ?_
  · obtain ⟨p1, rfl⟩ := p
    have il := (List.getElem?_eq_some_iff.mp e).1
    have l1 : (setOf ((xs.take i).map h)).length < 4000 := by
      have := foldS_len ((xs.take i).map h) []
      rw [List.length_map, List.length_take] at this
      unfold setOf
      simp only [List.length_nil] at this
      omega
    have q := hs i x _ e l1
    have e2 : setOf ((xs.take (i + 1)).map h) = addS (setOf ((xs.take i).map h)) (h x) := by
      unfold setOf
      rw [XR.take_one e, List.map_append, List.foldl_append]
      rfl
    rw [e2]
    have : (fun o => o = addS (setOf ((xs.take i).map h)) (h x)) = fun o => i + 1 ≤ xs.length ∧ o = addS (setOf ((xs.take i).map h)) (h x) := funext fun o => propext ⟨fun z => ⟨il, z⟩, fun z => z.2⟩
    rw [this] at q
    exact q
  · obtain ⟨_, rfl⟩ := p
    rw [List.take_length]
    exact hd
/-- the inner for of two -/
theorem lcj_stp {lo c : Int} {n : Nat} {n0 : Nat} {step : T → Env → (Env → Prop) → Prop} {done : Env → Prop} (E : β → Env) (P : Nat → β → Prop) (h0 : NLs n0 vs E (P 0) γ1) (hs : ∀ i s, i < n → P i s → step (.int (lo + (i : Nat) * c)) ((E s).wipe vs) (NLs n0 vs E (P (i + 1)))) (hd : ∀ s, P n s → done (E s)) : LcJ (.fix (rngC lo c n)) n0 γ1 vs step done := by
  refine lcj_ts E P h0 (fun i t s e p => ?_) fun s p => hd s (by rw [rngC_len] at p; exact p)
  obtain ⟨h, rfl⟩ := rngC_at e
  exact hs i s h p
end
end VL
set_option Elab.async false
set_option linter.all false
set_option maxRecDepth 100000
set_option maxHeartbeats 4000000
/-! defs that call themselves: a promise for each depth; lists turned to tuples -/
namespace VL
open PySem PySem.Spec PyProof.Rows L2 XR
section
variable {P : Program} {w : World} {K : PySem.W.Frag} {mg : Str → Option Value} {base : Heap}
/-- the promise that asks what can't be -/
theorem okNo {CX : CXT} {k : Nat} {f : Addr} {fd : FuncData} {ps : List Str} {ks : List Bool} {fv : VSp} (no : ∀ ts Q X, ¬ fv ts Q X) : FnOk P w K mg base CX k f fd ps (vsp K ks fv) :=
  ⟨fun vs H Q E ⟨_, _, _, _, _, _, _, h, _⟩ => (no _ _ _ h).elim, fun _ _ _ _ _ _ _ _ _ _ _ _ _ ⟨_, _, _, _, _, _, _, h, _⟩ => (no _ _ _ h).elim⟩
end
mutual
/-- lists turned to tuples, all the way down -/
def toTup : T → T
  | .lst ts => .tup (toTups ts)
  | .scr ts => .tup (toTups ts)
  | .tup ts => .tup (toTups ts)
  | .bl b => .bl b
  | .int i => .int i
  | .str s => .str s
  | .non => .non
  | .ty n => .ty n
  | .cls a => .cls a
  | .rng a b => .rng a b
  | .obj C fs => .obj C fs
  | .dk ks => .dk ks
  | .dt ks => .dt ks
  | .ho o => .ho o
def toTups : List T → List T
  | [] => []
  | t :: r => toTup t :: toTups r
end
theorem toTups_eq : ∀ ts : List T, toTups ts = ts.map toTup
  | [] => rfl
  | t :: r => congrArg (toTup t :: ·) (toTups_eq r)
theorem toTup_tup (ts : List T) : toTup (.tup ts) = .tup (ts.map toTup) := congrArg T.tup (toTups_eq ts)
theorem toTup_lst (ts : List T) : toTup (.lst ts) = .tup (ts.map toTup) := congrArg T.tup (toTups_eq ts)
/-- ints in lists and tuples, at most that deep -/
def AT : Nat → T → Prop
  | 0, _ => False
  | n + 1, .int _ => True
  | n + 1, .lst ts => ts.length < 100000 ∧ ∀ t ∈ ts, AT n t
  | n + 1, .tup ts => ts.length < 100000 ∧ ∀ t ∈ ts, AT n t
  | _ + 1, _ => False
end VL
set_option Elab.async false
set_option linter.all false
set_option maxRecDepth 100000
set_option maxHeartbeats 4000000
/-! a chain of three comparisons -/
namespace VL
open PySem PySem.Spec PyProof.Rows L2 XR
def tChain3 (r r' r'' : R2) (ta tb tc td : TE) : TE := fun σ H Q => ta σ H fun x H1 => tb σ H1 fun y H2 => r x y H2 fun z H3 => ∃ k, z = .bl k ∧ (if k = true then tc σ H3 fun u H4 => r' y u H4 fun z H5 => ∃ k, z = .bl k ∧ (if k = true then td σ H5 fun v H6 => r'' u v H6 Q else Q (.bl false) H5) else Q (.bl false) H3)
section
variable {X : Cx} {a b c d : Expr} {ta tb tc td : TE} {pos : Pos} {o1 o2 o3 : CmpOp} {r r' r'' : R2}
theorem truth_of {pins : List (Addr × Obj)} {σ : L2.St} {H : Hp} {s : Shared} {u : Value} {k : Bool} {Q : Bool → Shared → Prop} (ru : RelV (V.bl k) u) (h : Q k s) : wpAny (model X.prog X.w) X.A (truthy u) Q X.xe s := by
  cases ru
  exact wpAny_truthy_bool h
theorem pe_chain3 (h1 : OpR X (compareOp o1) r) (h2 : OpR X (compareOp o2) r') (h3 : OpR X (compareOp o3) r'') (ha : PE X a ta) (hb : PE X b tb) (hc : PE X c tc) (hd : PE X d td) (hm : lastMarks [o1, o2, o3] [b, c, d] = false := by rfl) :
    PE X (.Compare a [o1, o2, o3] [b, c, d] pos) (tChain3 r r' r'' ta tb tc td) := by
  refine ⟨fun pins s σ H Q I h => ?_⟩
  rw [arm_eval_Compare]
  refine wpAny_bind (thn (ha.run pins s σ H _ I h) fun v s1 ⟨x, H1, I1, r1, q1⟩ => ?_)
  have em : markedEach [o1, o2, o3] [b, c, d] (evalEach [b, c, d] X.env) = [eval b X.env, eval c X.env, eval d X.env] := by
    show [eval b X.env, eval c X.env, markedBehindIn o3 d (eval d X.env)] = _
    unfold markedBehindIn
    rw [show behindInMarks o3 d = false from hm]
    try rfl
  rw [em]
  refine chain_link (thn (hb.run pins s1 σ H1 _ I1 q1) fun u s2 ⟨y, H2, I2, r2, q2⟩ => ?_)
  refine thn (h1 pins s2 σ H2 x y v u _ I2 r1 r2 q2) fun e s3 ⟨z, H3, I3, r3, k, ez, q3⟩ => ?_
  subst ez
  refine truth_of (pins := pins) (σ := σ) (H := H3) r3 ?_
  cases k with
  | false => exact ⟨_, H3, I3, r3, by simpa using q3⟩
  | true =>
    rw [if_pos rfl] at q3 ⊢
    refine chain_link (thn (hc.run pins s3 σ H3 _ I3 q3) fun u2 s4 ⟨y2, H4, I4, r4, q4⟩ => ?_)
    refine thn (h2 pins s4 σ H4 y y2 u u2 _ I4 r2 r4 q4) fun e2 s5 ⟨z, H5, I5, r5, k, ez, q5⟩ => ?_
    subst ez
    refine truth_of (pins := pins) (σ := σ) (H := H5) r5 ?_
    cases k with
    | false => exact ⟨_, H5, I5, r5, by simpa using q5⟩
    | true =>
      rw [if_pos rfl] at q5 ⊢
      refine chain_last (thn (hd.run pins s5 σ H5 _ I5 q5) fun u3 s6 ⟨y3, H6, I6, r6, q6⟩ => ?_)
      exact h3 pins s6 σ H6 y2 y3 u2 u3 _ I6 r4 r6 q6
theorem pt_chain3 (h1 : OpR X (compareOp o1) r) (h2 : OpR X (compareOp o2) r') (h3 : OpR X (compareOp o3) r'') (ha : PE X a ta) (hb : PE X b tb) (hc : PE X c tc) (hd : PE X d td) (hm : lastMarks [o1, o2, o3] [b, c, d] = false := by rfl) :
    PT X (.Compare a [o1, o2, o3] [b, c, d] pos) (tTest (tChain3 r r' r'' ta tb tc td)) := by
  refine ⟨fun pins s σ H Q I h => ?_⟩
  have h : tChain3 r r' r'' ta tb tc td σ H (fun x H' => ∃ k, x = V.bl k ∧ Q k H') := h
  refine isTrue_chain (thn (ha.run pins s σ H _ I h) fun v s1 ⟨x, H1, I1, r1, q1⟩ => ?_) hm
  refine test_link (thn (hb.run pins s1 σ H1 _ I1 q1) fun u s2 ⟨y, H2, I2, r2, q2⟩ => ?_)
  refine thn (h1 pins s2 σ H2 x y v u _ I2 r1 r2 q2) fun e s3 ⟨z, H3, I3, r3, k, ez, q3⟩ => ?_
  subst ez
  refine truth_of (pins := pins) (σ := σ) (H := H3) r3 ?_
  cases k with
  | false =>
    obtain ⟨k, ek, q⟩ : ∃ k, V.bl false = V.bl k ∧ Q k H3 := by simpa using q3
    cases ek
    exact ⟨H3, I3, q⟩
  | true =>
    rw [if_pos rfl] at q3 ⊢
    refine test_link (thn (hc.run pins s3 σ H3 _ I3 q3) fun u2 s4 ⟨y2, H4, I4, r4, q4⟩ => ?_)
    refine thn (h2 pins s4 σ H4 y y2 u u2 _ I4 r2 r4 q4) fun e2 s5 ⟨z, H5, I5, r5, k, ez, q5⟩ => ?_
    subst ez
    refine truth_of (pins := pins) (σ := σ) (H := H5) r5 ?_
    cases k with
    | false =>
      obtain ⟨k, ek, q⟩ : ∃ k, V.bl false = V.bl k ∧ Q k H5 := by simpa using q5
      cases ek
      exact ⟨H5, I5, q⟩
    | true =>
      rw [if_pos rfl] at q5 ⊢
      refine test_last (thn (hd.run pins s5 σ H5 _ I5 q5) fun u3 s6 ⟨y3, H6, I6, r6, q6⟩ => ?_)
      refine thn (h3 pins s6 σ H6 y2 y3 u2 u3 _ I6 r4 r6 q6) fun e3 s7 ⟨z, H7, I7, r7, k, ez, q7⟩ => ?_
      subst ez
      exact truth_of (pins := pins) (σ := σ) (H := H7) r7 ⟨H7, I7, q7⟩
end
section
variable {K : PySem.W.Frag} {B : Bs} {E : L2.St → XK}
def vChain3 (wr wr' wr'' : Rf → Rf → VW) (wa wb wc wd : VW) : VW := fun γ Q X => wa γ (fun r1 γ1 => wb γ1 (fun r2 γ2 => wr r1 r2 γ2 (fun r3 γ3 => peek r3 γ3 fun t => match t with
  | .bl c => br c (wc γ3 (fun r4 γ4 => wr' r2 r4 γ4 (fun r5 γ5 => peek r5 γ5 fun t => match t with
    | .bl c => br c (wd γ5 (fun r6 γ6 => wr'' r4 r6 γ6 Q X) X) (Q (.val (.bl false)) γ5)
    | _ => False) X) X) (Q (.val (.bl false)) γ3)
  | _ => False) X) X) X
instance {r r' r'' : R2} {ta tb tc td : TE} {wa wb wc wd : VW} {wr wr' wr'' : Rf → Rf → VW} [ha : VE K B E ta wa] [hb : VE K B E tb wb] [hc : VE K B E tc wc] [hd : VE K B E td wd] [hr : V2 K B E r wr] [hr' : V2 K B E r' wr'] [hr'' : V2 K B E r'' wr''] : VE K B E (tChain3 r r' r'' ta tb tc td) (vChain3 wr wr' wr'' wa wb wc wd) where
  run := fun {as γ σ G H Q Qv Xv} S h k kx => by
    refine ha.run S h (fun r1 γ1 as1 v1 G1 H1 p1 g1 S1 rr1 q1 => ?_) kx
    refine hb.run S1 q1 (fun r2 γ2 as2 v2 G2 H2 p2 g2 S2 rr2 q2 => ?_) (kx.mono p1 g1)
    refine hr.run S2 (RR.mono rr1 p2 g2) rr2 q2 (fun r3 γ3 as3 v3 G3 H3 p3 g3 S3 rr3 q3 => ?_) ((kx.mono p1 g1).mono p2 g2)
    have k3 := ((k.mono p1 g1).mono p2 g2).mono p3 g3
    have kx3 := ((kx.mono p1 g1).mono p2 g2).mono p3 g3
    obtain ⟨t, q, z⟩ := peek_ok S3 rr3 q3
    split at q
    · rename_i c
      refine ⟨c, bl_any z, ?_⟩
      cases c
      · exact kval k3 S3 (.bl _) q
      · refine hc.run S3 q (fun r4 γ4 as4 v4 G4 H4 p4 g4 S4 rr4 q4 => ?_) kx3
        refine hr'.run S4 (RR.mono rr2 (p3.trans p4) (g3.trans g4)) rr4 q4 (fun r5 γ5 as5 v5 G5 H5 p5 g5 S5 rr5 q5 => ?_) (kx3.mono p4 g4)
        have k5 := (k3.mono p4 g4).mono p5 g5
        have kx5 := (kx3.mono p4 g4).mono p5 g5
        obtain ⟨t, q, z⟩ := peek_ok S5 rr5 q5
        split at q
        · rename_i c
          refine ⟨c, bl_any z, ?_⟩
          cases c
          · exact kval k5 S5 (.bl _) q
          · refine hd.run S5 q (fun r6 γ6 as6 v6 G6 H6 p6 g6 S6 rr6 q6 => ?_) kx5
            exact hr''.run S6 (RR.mono rr4 (p5.trans p6) (g5.trans g6)) rr6 q6 (k5.mono p6 g6) (kx5.mono p6 g6)
        · exact q.elim
    · exact q.elim
end
end VL
set_option Elab.async false
set_option linter.all false
set_option maxRecDepth 100000
set_option maxHeartbeats 4000000
/-! isinstance(x, (c1, c2, ..)), the tuple written there -/
namespace VL
open PySem PySem.Spec PyProof.Rows L2 XR
def asV : List Rf → Option (List T)
  | [] => some []
  | .val t :: r => match asV r with
    | some ts => some (t :: ts)
    | none => none
  | .ref _ :: _ => none
  | .err _ _ :: _ => none
section
variable {K : PySem.W.Frag} {B : Bs} {E : L2.St → XK}
theorem asV_ok {ex : Addr × Value × Option Addr} {as : List Addr} {G : Hp} : ∀ {rs : List Rf} {vs : List V} {ts : List T}, RRs K ex as G rs vs → asV rs = some ts → RpAll K G vs ts
  | [], _, _, .nil, e => by cases e; exact .nil
  | .val t :: r, _, ts, .cons a b, e => by
    unfold asV at e
    cases q : asV r with
    | none => rw [q] at e; cases e
    | some us => rw [q] at e; cases e; exact .cons a (asV_ok b q)
  | .ref _ :: _, _, _, _, e => by cases e
  | .err _ _ :: _, _, _, _, e => by cases e
theorem cls_all {G : Hp} : ∀ {cs : List T} {us : List Value} {vs : List V}, Paired ClR cs us → RpAll K G vs cs → Paired ClsV vs us
  | [], _, _, .nil, .nil => .nil
  | _ :: _, _, _, .cons a b, .cons c d => .cons (a.ok c) (cls_all b d)
theorem TyR.one {x : T} {t u : Value} (h : TyR K x t) (k : TyR K x u) : t = u := by
  cases h <;> cases k <;> rfl
theorem isIs_any {G : Hp} {x : T} : ∀ {cs : List T} {b : Bool} {vs : List V}, IsIs K x cs b → RpAll K G vs cs → ∃ t us, TyR K x t ∧ Paired ClsV vs us ∧ PySem.W.kitAny K t us = some b
  | _, _, _, .nil t h, .nil => ⟨t, [], h, .nil, rfl⟩
  | c :: cs, _, _, .yes h ⟨us, k⟩, .cons a d => by
    obtain ⟨t, u, h1, h2, h3⟩ := h
    refine ⟨t, u :: us, h1, .cons (h2.ok a) (cls_all k d), ?_⟩
    unfold PySem.W.kitAny
    rw [h3]
  | c :: cs, b, _, .no h k, .cons a d => by
    obtain ⟨t, u, h1, h2, h3⟩ := h
    obtain ⟨t', us, k1, k2, k3⟩ := isIs_any k d
    have e := k1.one h1
    subst e
    refine ⟨t', u :: us, k1, .cons (h2.ok a) k2, ?_⟩
    unfold PySem.W.kitAny
    rw [h3]
    exact k3
def vIsiT (K : PySem.W.Frag) (we : VW) (wa : Env → (List Rf → Env → Prop) → XQ → Prop) : VW := fun γ Q X => we γ (fun r γ1 => wa γ1 (fun rs γ2 => peek r γ2 fun t => match asV rs with
  | some cs => cs.length ≤ 100 ∧ ∃ b, IsIs K t cs b ∧ Q (.val (.bl b)) γ2
  | none => False) X) X
instance {te : TE} {we : VW} {ta : TA} {wa : Env → (List Rf → Env → Prop) → XQ → Prop} [he : VE K B E te we] [ha : VA K B E ta wa] : VE K B E (tCB (rIsiT K) (tCons te (tCons (tTup ta) tNil))) (vIsiT K we wa) where
  run := fun {as γ σ G H Q Qv Xv} S h k kx => by
    refine he.run S h (fun r1 γ1 as1 v1 G1 H1 p1 g1 S1 rr1 q1 => ?_) kx
    refine ha.run S1 q1 (fun rs γ2 as2 vs G2 H2 p2 g2 S2 rr2 q2 => ?_) (kx.mono p1 g1)
    obtain ⟨t, q2, z⟩ := peek_rp S2 (RR.mono rr1 p2 g2) q2
    split at q2
    · rename_i cs e
      obtain ⟨hl, b, hi, q⟩ := q2
      have rp := asV_ok rr2 e
      refine ⟨by rw [rp.length, sizeLine_eq]; omega, fun p hp => ?_⟩
      have x2 : Same H2 (L2.upd H2 p (.tup vs)) := Same.add hp
      have S3 := S2.grow x2
      obtain ⟨t', us, k1, k2, k3⟩ := isIs_any hi rp
      exact ⟨_, p, vs, t', us, b, rfl, upd_same, k2, k1.ok (z.mono x2), k3, kval ((k.mono p1 g1).mono p2 g2) S3 (.bl _) q⟩
    · exact q2.elim
end
end VL
set_option Elab.async false
set_option linter.all false
set_option maxRecDepth 100000
set_option maxHeartbeats 4000000
set_option synthInstance.maxSize 1000000
set_option synthInstance.maxHeartbeats 4000000
namespace Toy
open PySem L2 XR VL
def top (i : Nat) : Stmt := PySem.Challenge.pw_fittingpasts_k06_remainder_tables.main.body.getD i (.Pass ⟨0, 0, 0, 0⟩)
abbrev s_place_on : Stmt := top 1
abbrev s_as_tuples : Stmt := top 3
abbrev s__demand : Stmt := top 5
abbrev s_remainder_row : Stmt := top 6
abbrev s_RemainderTable_init : Stmt := inClass (top 7) 0
abbrev s__shut_by : Stmt := top 8
abbrev s_shut_lengths : Stmt := top 9
abbrev s__is_shut : Stmt := top 10
abbrev s_judge_table : Stmt := top 11
abbrev s_gap_places : Stmt := top 12
abbrev s_possible_gaps : Stmt := top 13
abbrev s__law_box : Stmt := top 15
abbrev s__law_draw : Stmt := top 16
abbrev s__law_is_number : Stmt := top 17
abbrev s__law_sightings : Stmt := top 18
abbrev s__law_bounds : Stmt := top 19
abbrev s__law_fits : Stmt := top 20
abbrev s__law_pairs : Stmt := top 21
abbrev s__law_rows : Stmt := top 22
abbrev s__law_sizes : Stmt := top 23
abbrev s__law_judged : Stmt := top 24
abbrev s__law_spoilt : Stmt := top 25
abbrev s__law_is_table : Stmt := top 26
abbrev s__law_says : Stmt := top 27
abbrev s__law_asked : Stmt := top 28
abbrev s__law_good : Stmt := top 29
abbrev s__law_tables : Stmt := top 30
abbrev s__law_reached : Stmt := top 31
abbrev s__law_is_list : Stmt := top 32
abbrev s__law_gaps : Stmt := top 33
abbrev s_law : Stmt := top 34
/-- where the defs and classes of the text stand -/
structure Ad where
  a_place_on : Addr
  d_place_on : FuncData
  a_as_tuples : Addr
  d_as_tuples : FuncData
  a__demand : Addr
  d__demand : FuncData
  a_remainder_row : Addr
  d_remainder_row : FuncData
  a_RemainderTable_init : Addr
  d_RemainderTable_init : FuncData
  a__shut_by : Addr
  d__shut_by : FuncData
  a_shut_lengths : Addr
  d_shut_lengths : FuncData
  a__is_shut : Addr
  d__is_shut : FuncData
  a_judge_table : Addr
  d_judge_table : FuncData
  a_gap_places : Addr
  d_gap_places : FuncData
  a_possible_gaps : Addr
  d_possible_gaps : FuncData
  a__law_box : Addr
  d__law_box : FuncData
  a__law_draw : Addr
  d__law_draw : FuncData
  a__law_is_number : Addr
  d__law_is_number : FuncData
  a__law_sightings : Addr
  d__law_sightings : FuncData
  a__law_bounds : Addr
  d__law_bounds : FuncData
  a__law_fits : Addr
  d__law_fits : FuncData
  a__law_pairs : Addr
  d__law_pairs : FuncData
  a__law_rows : Addr
  d__law_rows : FuncData
  a__law_sizes : Addr
  d__law_sizes : FuncData
  a__law_judged : Addr
  d__law_judged : FuncData
  a__law_spoilt : Addr
  d__law_spoilt : FuncData
  a__law_is_table : Addr
  d__law_is_table : FuncData
  a__law_says : Addr
  d__law_says : FuncData
  a__law_asked : Addr
  d__law_asked : FuncData
  a__law_good : Addr
  d__law_good : FuncData
  a__law_tables : Addr
  d__law_tables : FuncData
  a__law_reached : Addr
  d__law_reached : FuncData
  a__law_is_list : Addr
  d__law_is_list : FuncData
  a__law_gaps : Addr
  d__law_gaps : FuncData
  a_law : Addr
  d_law : FuncData
  c_RemainderTable : Addr
structure Txt (K : PySem.W.Frag) (mg : Str → Option Value) (D : Ad) : Prop where
  F_place_on : Fun K "place_on" "place_on" s_place_on D.a_place_on D.d_place_on
  b_place_on : Binds K D.d_place_on ["cycle", "day"] []
  g_place_on : mg "place_on" = some (.ref D.a_place_on)
  F_as_tuples : Fun K "as_tuples" "as_tuples" s_as_tuples D.a_as_tuples D.d_as_tuples
  b_as_tuples : Binds K D.d_as_tuples ["value"] []
  g_as_tuples : mg "as_tuples" = some (.ref D.a_as_tuples)
  F__demand : Fun K "_demand" "_demand" s__demand D.a__demand D.d__demand
  b__demand : Binds K D.d__demand ["sighting", "length"] []
  g__demand : mg "_demand" = some (.ref D.a__demand)
  F_remainder_row : Fun K "remainder_row" "remainder_row" s_remainder_row D.a_remainder_row D.d_remainder_row
  b_remainder_row : Binds K D.d_remainder_row ["sightings", "length"] []
  g_remainder_row : mg "remainder_row" = some (.ref D.a_remainder_row)
  F_RemainderTable_init : Fun K "__init__" "RemainderTable.__init__" s_RemainderTable_init D.a_RemainderTable_init D.d_RemainderTable_init
  b_RemainderTable_init : Binds K D.d_RemainderTable_init ["self", "rows"] []
  m_RemainderTable_init : PySem.W.findIn K (.ref D.c_RemainderTable) "__init__" = some (some (.ref D.a_RemainderTable_init))
  i_RemainderTable_init : PySem.W.isFn K (.ref D.a_RemainderTable_init) = true
  F__shut_by : Fun K "_shut_by" "_shut_by" s__shut_by D.a__shut_by D.d__shut_by
  b__shut_by : Binds K D.d__shut_by ["row"] []
  g__shut_by : mg "_shut_by" = some (.ref D.a__shut_by)
  F_shut_lengths : Fun K "shut_lengths" "shut_lengths" s_shut_lengths D.a_shut_lengths D.d_shut_lengths
  b_shut_lengths : Binds K D.d_shut_lengths ["sightings", "least", "most"] []
  g_shut_lengths : mg "shut_lengths" = some (.ref D.a_shut_lengths)
  F__is_shut : Fun K "_is_shut" "_is_shut" s__is_shut D.a__is_shut D.d__is_shut
  b__is_shut : Binds K D.d__is_shut ["row", "first", "second"] []
  g__is_shut : mg "_is_shut" = some (.ref D.a__is_shut)
  F_judge_table : Fun K "judge_table" "judge_table" s_judge_table D.a_judge_table D.d_judge_table
  b_judge_table : Binds K D.d_judge_table ["sightings", "least", "most", "table"] []
  g_judge_table : mg "judge_table" = some (.ref D.a_judge_table)
  F_gap_places : Fun K "gap_places" "gap_places" s_gap_places D.a_gap_places D.d_gap_places
  b_gap_places : Binds K D.d_gap_places ["place", "gap", "least", "most"] []
  g_gap_places : mg "gap_places" = some (.ref D.a_gap_places)
  F_possible_gaps : Fun K "possible_gaps" "possible_gaps" s_possible_gaps D.a_possible_gaps D.d_possible_gaps
  b_possible_gaps : Binds K D.d_possible_gaps ["place", "other", "least", "most", "span"] []
  g_possible_gaps : mg "possible_gaps" = some (.ref D.a_possible_gaps)
  F__law_box : Fun K "_law_box" "_law_box" s__law_box D.a__law_box D.d__law_box
  b__law_box : Binds K D.d__law_box ["_law_script"] []
  g__law_box : mg "_law_box" = some (.ref D.a__law_box)
  F__law_draw : Fun K "_law_draw" "_law_draw" s__law_draw D.a__law_draw D.d__law_draw
  b__law_draw : Binds K D.d__law_draw ["_law_box_here", "_law_size"] []
  g__law_draw : mg "_law_draw" = some (.ref D.a__law_draw)
  F__law_is_number : Fun K "_law_is_number" "_law_is_number" s__law_is_number D.a__law_is_number D.d__law_is_number
  b__law_is_number : Binds K D.d__law_is_number ["_law_value"] []
  g__law_is_number : mg "_law_is_number" = some (.ref D.a__law_is_number)
  F__law_sightings : Fun K "_law_sightings" "_law_sightings" s__law_sightings D.a__law_sightings D.d__law_sightings
  b__law_sightings : Binds K D.d__law_sightings ["_law_box_here", "_law_size"] []
  g__law_sightings : mg "_law_sightings" = some (.ref D.a__law_sightings)
  F__law_bounds : Fun K "_law_bounds" "_law_bounds" s__law_bounds D.a__law_bounds D.d__law_bounds
  b__law_bounds : Binds K D.d__law_bounds ["_law_box_here", "_law_size"] []
  g__law_bounds : mg "_law_bounds" = some (.ref D.a__law_bounds)
  F__law_fits : Fun K "_law_fits" "_law_fits" s__law_fits D.a__law_fits D.d__law_fits
  b__law_fits : Binds K D.d__law_fits ["_law_sightings_here", "_law_size", "_law_first", "_law_second"] []
  g__law_fits : mg "_law_fits" = some (.ref D.a__law_fits)
  F__law_pairs : Fun K "_law_pairs" "_law_pairs" s__law_pairs D.a__law_pairs D.d__law_pairs
  b__law_pairs : Binds K D.d__law_pairs ["_law_sightings_here", "_law_size"] []
  g__law_pairs : mg "_law_pairs" = some (.ref D.a__law_pairs)
  F__law_rows : Fun K "_law_rows" "_law_rows" s__law_rows D.a__law_rows D.d__law_rows
  b__law_rows : Binds K D.d__law_rows ["_law_sightings_here", "_law_bounds_here", "_law_last"] []
  g__law_rows : mg "_law_rows" = some (.ref D.a__law_rows)
  F__law_sizes : Fun K "_law_sizes" "_law_sizes" s__law_sizes D.a__law_sizes D.d__law_sizes
  b__law_sizes : Binds K D.d__law_sizes ["_law_rows_here"] []
  g__law_sizes : mg "_law_sizes" = some (.ref D.a__law_sizes)
  F__law_judged : Fun K "_law_judged" "_law_judged" s__law_judged D.a__law_judged D.d__law_judged
  b__law_judged : Binds K D.d__law_judged ["_law_sightings_here", "_law_sizes_here", "_law_rows_here"] []
  g__law_judged : mg "_law_judged" = some (.ref D.a__law_judged)
  F__law_spoilt : Fun K "_law_spoilt" "_law_spoilt" s__law_spoilt D.a__law_spoilt D.d__law_spoilt
  b__law_spoilt : Binds K D.d__law_spoilt ["_law_rows_here", "_law_at", "_law_index", "_law_far"] []
  g__law_spoilt : mg "_law_spoilt" = some (.ref D.a__law_spoilt)
  F__law_is_table : Fun K "_law_is_table" "_law_is_table" s__law_is_table D.a__law_is_table D.d__law_is_table
  b__law_is_table : Binds K D.d__law_is_table ["_law_table", "_law_due"] []
  g__law_is_table : mg "_law_is_table" = some (.ref D.a__law_is_table)
  F__law_says : Fun K "_law_says" "_law_says" s__law_says D.a__law_says D.d__law_says
  b__law_says : Binds K D.d__law_says ["_law_told", "_law_due"] []
  g__law_says : mg "_law_says" = some (.ref D.a__law_says)
  F__law_asked : Fun K "_law_asked" "_law_asked" s__law_asked D.a__law_asked D.d__law_asked
  b__law_asked : Binds K D.d__law_asked ["_law_given", "_law_sightings_here", "_law_bounds_here", "_law_sizes_here", "_law_rows_here"] []
  g__law_asked : mg "_law_asked" = some (.ref D.a__law_asked)
  F__law_good : Fun K "_law_good" "_law_good" s__law_good D.a__law_good D.d__law_good
  b__law_good : Binds K D.d__law_good ["_law_given", "_law_sightings_here", "_law_bounds_here", "_law_rows_here"] []
  g__law_good : mg "_law_good" = some (.ref D.a__law_good)
  F__law_tables : Fun K "_law_tables" "_law_tables" s__law_tables D.a__law_tables D.d__law_tables
  b__law_tables : Binds K D.d__law_tables ["_law_given", "_law_sightings_here", "_law_bounds_here", "_law_other", "_law_spoil"] []
  g__law_tables : mg "_law_tables" = some (.ref D.a__law_tables)
  F__law_reached : Fun K "_law_reached" "_law_reached" s__law_reached D.a__law_reached D.d__law_reached
  b__law_reached : Binds K D.d__law_reached ["_law_spot", "_law_gap", "_law_bounds_here"] []
  g__law_reached : mg "_law_reached" = some (.ref D.a__law_reached)
  F__law_is_list : Fun K "_law_is_list" "_law_is_list" s__law_is_list D.a__law_is_list D.d__law_is_list
  b__law_is_list : Binds K D.d__law_is_list ["_law_told", "_law_due"] []
  g__law_is_list : mg "_law_is_list" = some (.ref D.a__law_is_list)
  F__law_gaps : Fun K "_law_gaps" "_law_gaps" s__law_gaps D.a__law_gaps D.d__law_gaps
  b__law_gaps : Binds K D.d__law_gaps ["_law_spot", "_law_other", "_law_gap", "_law_span", "_law_bounds_here"] []
  g__law_gaps : mg "_law_gaps" = some (.ref D.a__law_gaps)
  F_law : Fun K "law" "law" s_law D.a_law D.d_law
  b_law : Binds K D.d_law ["_law_script"] []
  g_law : mg "law" = some (.ref D.a_law)
  g_RemainderTable : mg "RemainderTable" = some (.ref D.c_RemainderTable)
  k_RemainderTable : PySem.W.keepIn K (.ref D.c_RemainderTable) = true
  n_ValueError : mg "ValueError" = none
  n_abs : mg "abs" = none
  n_all : mg "all" = none
  n_bool : mg "bool" = none
  n_enumerate : mg "enumerate" = none
  n_int : mg "int" = none
  n_isinstance : mg "isinstance" = none
  n_len : mg "len" = none
  n_list : mg "list" = none
  n_max : mg "max" = none
  n_min : mg "min" = none
  n_range : mg "range" = none
  n_set : mg "set" = none
  n_sorted : mg "sorted" = none
  n_tuple : mg "tuple" = none
  cn_ : PySem.W.specialIn K (.builtin "object.__class__") "__get__" = some (some (.builtin "getset_descriptor.__get__"))
  ct_ : PySem.W.takesIn K (.builtin "object.__class__") = some true
  ymk_RemainderTable : PySem.W.makesIn K D.c_RemainderTable = true
  ypg_RemainderTable : PySem.W.plainGet K D.c_RemainderTable Str.empty = true
  yhd_RemainderTable : PySem.W.hasDictIn K D.c_RemainderTable = true
  ypo_RemainderTable : PySem.W.plainOver K D.c_RemainderTable = true
  ysa_RemainderTable : PySem.W.findIn K (.ref D.c_RemainderTable) "__setattr__" = some (some (.builtin "object.__setattr__"))
  ysf_RemainderTable : PySem.W.selfFirst K D.c_RemainderTable = true
  yca_RemainderTable : PySem.W.findIn K (.ref D.c_RemainderTable) "__class__" = some (some (.builtin "object.__class__"))
  ymo_RemainderTable : PySem.W.mroIn K D.c_RemainderTable (.type "object") = some true
  zo_RemainderTable_RemainderTable : PySem.W.kitOne K (.ref D.c_RemainderTable) (.ref D.c_RemainderTable) = some true
  zo_RemainderTable_bool : PySem.W.kitOne K (.ref D.c_RemainderTable) (.type "bool") = some false
  zo_RemainderTable_int : PySem.W.kitOne K (.ref D.c_RemainderTable) (.type "int") = some false
  zo_RemainderTable_list : PySem.W.kitOne K (.ref D.c_RemainderTable) (.type "list") = some false
  zo_RemainderTable_tuple : PySem.W.kitOne K (.ref D.c_RemainderTable) (.type "tuple") = some false
  no_RemainderTable_rows : PySem.W.findIn K (.ref D.c_RemainderTable) "rows" = some none
section
variable {K : PySem.W.Frag} {mg : Str → Option Value} {D : Ad}
theorem T_cl_RemainderTable (T : Txt K mg D) : Cls K D.c_RemainderTable := ⟨T.ypg_RemainderTable, T.yhd_RemainderTable, T.ypo_RemainderTable, T.ysa_RemainderTable⟩
theorem T_mk_RemainderTable (T : Txt K mg D) : Mk K D.c_RemainderTable D.a_RemainderTable_init := ⟨T.ymk_RemainderTable, T.m_RemainderTable_init, T.i_RemainderTable_init, T.k_RemainderTable⟩
theorem T_ty_RemainderTable (T : Txt K mg D) {H : Hp} {a dx : Addr} {fs : List (Str × V)} (e : H a = some (.ins D.c_RemainderTable dx fs)) : TyX K H (.ref a) (.ref D.c_RemainderTable) := .base (.ins e (T_cl_RemainderTable T) T.yca_RemainderTable T.cn_ T.ct_ T.ymo_RemainderTable)
end

section
variable {K : PySem.W.Frag} {mg : Str → Option Value} {D : Ad}

end
local macro_rules | `(tactic| walk_at "ne") => `(tactic| first | assumption | (apply Ne.symm; assumption) | exact XR.ne_fresh (by assumption) (by walk_at "hp") | exact Ne.symm (XR.ne_fresh (by assumption) (by walk_at "hp")))
local macro_rules | `(tactic| walk_at "hp") => `(tactic| first | assumption | exact upd_same | (refine Eq.trans (upd_ne ?_) ?_; (walk_at "ne"); walk_at "hp"))
local macro_rules | `(tactic| walk_at "sq") => `(tactic| first | walk_at "hp" | exact SqL.of (by walk_at "hp") | exact SqT.of (by walk_at "hp") | exact XR.SqT.same (by assumption) (by assumption) | exact XR.SqL.same (by assumption) (by assumption))
local macro_rules | `(tactic| walk_at "br") => `(tactic| (refine ite2 ?_ ?_ <;> intro hbr <;> (try simp only [decide_eq_true_eq, decide_eq_false_iff_not, V.int.injEq, V.bl.injEq, V.str.injEq, Bool.not_eq_true, Bool.not_eq_eq_eq_not, Bool.not_true, Bool.not_false, ne_eq, Int.reduceToNat, Int.reducePow, Int.reduceMul, Int.reduceAdd, Int.reduceSub, reduceCtorEq, not_true_eq_false, not_false_eq_true, Int.not_lt, Int.not_le] at hbr)))
local macro_rules | `(tactic| walk_at "side") => `(tactic| first
  | exact ⟨by decide, by decide, by decide⟩
  | exact .inl ⟨by decide, by decide⟩
  | exact .inr ⟨by decide, by decide⟩
  | exact XR.divw (by first | decide | omega) (by first | decide | omega)
  | (show (_ : Int) = _; first | rfl | omega)
  | (show (0 : Int) < _; first | decide | assumption | omega)
  | exact .inl ⟨by omega, by omega⟩
  | exact .inr ⟨by omega, by omega⟩
  | exact .inl (XR.cmul_mod (by decide))
  | exact XR.log_lt (by omega) (by omega)
  | decide
  | (rw [sizeLine_eq]; simp; done)
  | (show 2 ≤ sizeLine; decide) | (show 3 ≤ sizeLine; decide) | (show 4 ≤ sizeLine; decide) | (show 5 ≤ sizeLine; decide) | (show 6 ≤ sizeLine; decide) | (show 7 ≤ sizeLine; decide) | (show 1 ≤ sizeLine; decide) | (show 8 ≤ sizeLine; decide) | (show 0 ≤ sizeLine; decide))
local macro_rules | `(tactic| walk_at "rd1") => `(tactic| first
  | refine ⟨_, rfl, ?_⟩
  | refine ⟨_, _, rfl, rfl, ?_⟩
  | refine ⟨_, _, _, _, rfl, rfl, (by walk_at "sq"), rfl, ?_⟩
  | refine ⟨_, _, _, _, rfl, rfl, (by walk_at "hp"), (by walk_at "hp"), (by walk_at "side"), ?_⟩
  | refine ⟨_, _, rfl, .inl (by walk_at "sq"), ?_⟩
  | refine ⟨_, _, rfl, .inl ⟨(by walk_at "sq"), ?_⟩⟩
  | refine ⟨_, _, rfl, .inr (by walk_at "sq"), ?_⟩
  | refine ⟨_, _, _, _, _, rfl, (by walk_at "hp"), (by walk_at "cls"), (by walk_at "noat"), rfl, ?_⟩
  | refine ⟨_, _, _, _, rfl, rfl, (by walk_at "sq"), (by first | assumption | exact XR.at0 | exact XR.at1), ?_⟩
  | refine ⟨rfl, ?_⟩
  | refine And.intro (by walk_at "side") ?_
  | refine .inl ⟨_, rfl, ?_⟩
  | refine And.intro ⟨_, (by walk_at "sq")⟩ ?_
  | refine ⟨_, _, rfl, (by walk_at "sq"), ?_⟩
  | refine ⟨_, _, rfl, ?_⟩
  | refine .inr ⟨_, rfl, (by walk_at "side"), ?_⟩
  | refine ⟨_, _, _, rfl, (by walk_at "hp"), ?_⟩
  | refine iteT ?_
  | refine iteF ?_)
local macro_rules | `(tactic| walk_at "rd") => `(tactic| repeat (walk_at "rd1"))
local macro_rules | `(tactic| walk_at "nn") => `(tactic| (simp only [Int.reduceToNat, Int.reducePow, Int.reduceMul, Int.reduceAdd, Int.reduceSub, Int.reduceNeg]))
local macro_rules | `(tactic| walk_at "dr") => `(tactic| repeat (first | refine And.intro (by first | assumption | walk_at "pre") ?_ | refine And.intro (by first | decide | omega) ?_))
local macro_rules | `(tactic| walk_at "vi") => `(tactic| ((try dsimp only [L2.cxOf, L2.Cx.nox, L2.Cx.wish, L2.Cx.blk, L2.Cx.suite, L2.Cx.tr, L2H.cxH, List.map_cons, List.map_nil]); (try simp only [List.map_cons, List.map_nil]); infer_instance))
local macro_rules | `(tactic| walk_at "w") => `(tactic| conv => whnf)
local macro_rules | `(tactic| walk_at "sz") => `(tactic| first
  | (show _ ≤ sizeLine; rw [sizeLine_eq]; first | decide | omega | (simp; done) | (simp; omega))
  | (show _ < sizeLine; rw [sizeLine_eq]; first | decide | omega | (simp; done) | (simp; omega)))
local macro_rules | `(tactic| walk_at "ok") => `(tactic| first
  | exact encInt.list.ok (by decide) _ | exact encInt.tupl.ok (by decide) _ | exact encStr.list.ok (by decide) _ | exact encStr.tupl.ok (by decide) _
  | exact (encInt.pair encInt).list.ok (by decide) _ | exact (encInt.pair encInt).ok (by decide) _ | exact (encStr.pair encStr).list.ok (by decide) _ | exact (encStr.pair encStr).ok (by decide) _
  | exact encInt.tupl.list.ok (by decide) _)
local macro_rules | `(tactic| walk_at "vs") => `(tactic| first
  | exact trivial
  | assumption
  | exact rfl
  | exact ⟨rfl, rfl⟩
  | walk_at "ok"
  | walk_at "sz"
  | exact .inl (.inr ⟨by decide, by decide⟩)
  | exact .inl (.inl ⟨by first | decide | omega, by first | decide | omega⟩)
  | exact .inl (.inr ⟨by first | decide | omega, by first | decide | omega⟩)
  | exact XR.divw (by first | decide | omega) (by first | decide | omega)
  | (show (0 : Int) < _; first | decide | omega)
  | exact ⟨by first | decide | omega, by first | decide | omega⟩
  | exact ⟨by first | decide | omega, by first | decide | omega, by first | decide | omega⟩
  | exact ⟨by walk_at "sz", by omega, by omega⟩
  | exact ⟨by walk_at "cls", by walk_at "noat"⟩
  | exact ⟨by walk_at "xf", by walk_at "xe"⟩
  | walk_at "exm"
  | decide
  | exact XR.log_lt (by omega) (by omega)
  | ((try dsimp only); (try simp only [List.length_map, List.length_append, List.length_cons, List.length_nil, List.length_eraseIdx]); omega))
local macro_rules | `(tactic| walk_at "v") => `(tactic| (walk_at "w"; (repeat ((first | refine And.intro (by walk_at "vs") ?_ | refine isS_i (by assumption) ?_); walk_at "w")); (try walk_at "n")))
local macro_rules | `(tactic| walk_at "isi") => `(tactic| first | refine ⟨_, VL.IsI.int_int _, ?_⟩ | refine ⟨_, VL.IsI.int_bool _, ?_⟩ | refine ⟨_, VL.IsI.int_str _, ?_⟩ | refine ⟨_, VL.IsI.int_list _, ?_⟩ | refine ⟨_, VL.IsI.int_tuple _, ?_⟩ | refine ⟨_, VL.IsI.bl_int _, ?_⟩ | refine ⟨_, VL.IsI.bl_bool _, ?_⟩ | refine ⟨_, VL.IsI.bl_str _, ?_⟩ | refine ⟨_, VL.IsI.str_str _, ?_⟩ | refine ⟨_, VL.IsI.str_int _, ?_⟩ | refine ⟨_, VL.IsI.str_bool _, ?_⟩ | refine ⟨_, VL.IsI.lst_list _, ?_⟩ | refine ⟨_, VL.IsI.lst_tuple _, ?_⟩ | refine ⟨_, VL.IsI.tup_list _, ?_⟩ | refine ⟨_, VL.IsI.tup_tuple _, ?_⟩ | refine ⟨_, VL.IsI.tup_str _, ?_⟩ | refine ⟨_, VL.IsI.tup_int _, ?_⟩ | refine ⟨_, VL.IsI.dk_dict _, ?_⟩ | refine ⟨_, VL.IsI.non_int, ?_⟩ | refine ⟨_, VL.IsI.non_tuple, ?_⟩ | refine ⟨_, VL.IsI.non_list, ?_⟩ | refine ⟨_, VL.IsI.non_str, ?_⟩)
local macro_rules | `(tactic| walk_at "V") => `(tactic| (walk_at "w"; (repeat ((first | refine And.intro (by walk_at "vs") ?_ | refine isS_i (by assumption) ?_ | refine Or.inr ?_ | walk_at "isi" | walk_at "eis" | refine ⟨_, rfl, ?_⟩); walk_at "w")); (try walk_at "n")))
set_option hygiene false
local macro_rules | `(tactic| walk_at "vb") => `(tactic| (refine br_i ?_ ?_ <;> intro hbr <;> (try simp only [nb, decide_eq_true_eq, decide_eq_false_iff_not, Bool.not_eq_true, Bool.not_eq_eq_eq_not, Bool.not_true, Bool.not_false, ne_eq, Bool.and_eq_true, Bool.or_eq_true, Bool.and_eq_false_imp, Decidable.not_not, Int.not_lt, Int.not_le, bne_iff_ne, Bool.not_eq_false, Bool.or_eq_false_iff, reduceCtorEq, not_true_eq_false, not_false_eq_true] at hbr)))
set_option hygiene true
local macro_rules | `(tactic| walk_at "le") => `(tactic| exact VL.Le.to rfl (Nat.le_of_ble_eq_true rfl))
local macro_rules | `(tactic| walk_at "d") => `(tactic| dsimp only at *)
local macro_rules | `(tactic| walk_at "n") => `(tactic| dsimp only [VL.env0, VL.slots0, VL.mem0, VL.nones, VL.falses, VL.put_mk, VL.push_mk, VL.set_mk, VL.unset_mk, VL.wipe_nl, VL.wipe_cs, VL.el_mk, VL.ed_mk, VL.es_mk, VL.frs_nl, VL.frs_cs, VL.fr_mk, VL.frX, VL.frSl, VL.nth, Nat.reduceAdd, Nat.reduceSub, Nat.reduceMul, Nat.reduceBEq, List.set, List.length_cons, List.length_nil, List.cons_append, List.nil_append, VL.qI, VL.qT, VL.qR])
local macro_rules | `(tactic| walk_at "cls") => `(tactic| first | exact T_cl_RemainderTable (by assumption))
local macro_rules | `(tactic| walk_at "noat") => `(tactic| first | exact Txt.no_RemainderTable_rows (by assumption))
local macro_rules | `(tactic| walk_at "eis") => `(tactic| first | fail)
local macro_rules | `(tactic| walk_at "exm") => `(tactic| first | fail)
local macro_rules | `(tactic| walk_at "xf") => `(tactic| first | fail)
local macro_rules | `(tactic| walk_at "xe") => `(tactic| first | fail)
local macro_rules | `(tactic| walk_at "isi") => `(tactic| first | refine ⟨_, VL.IsI.mk _ _ (.obj (fun _ _ _ _ e => T_ty_RemainderTable (by assumption) e)) (.cls _) (Txt.zo_RemainderTable_RemainderTable (by assumption)), ?_⟩ | refine ⟨_, VL.IsI.mk _ _ (.obj (fun _ _ _ _ e => T_ty_RemainderTable (by assumption) e)) (.ty _) (Txt.zo_RemainderTable_bool (by assumption)), ?_⟩ | refine ⟨_, VL.IsI.mk _ _ (.obj (fun _ _ _ _ e => T_ty_RemainderTable (by assumption) e)) (.ty _) (Txt.zo_RemainderTable_int (by assumption)), ?_⟩ | refine ⟨_, VL.IsI.mk _ _ (.obj (fun _ _ _ _ e => T_ty_RemainderTable (by assumption) e)) (.ty _) (Txt.zo_RemainderTable_list (by assumption)), ?_⟩ | refine ⟨_, VL.IsI.mk _ _ (.obj (fun _ _ _ _ e => T_ty_RemainderTable (by assumption) e)) (.ty _) (Txt.zo_RemainderTable_tuple (by assumption)), ?_⟩)
section
variable {P : Program} {w : World} {K : PySem.W.Frag} {mg : Str → Option Value} {base : Heap} {D : Ad}
/-- the box of draws -/
def Bx (t : T) : Prop := ∃ (cs : List Int) (i big turn seed : Int), t = .lst [.lst (cs.map T.int), .int i, .int big, .int turn, .int seed] ∧ 0 ≤ i ∧ 0 ≤ big
def spBox : VSp := fun ts Q _ => ∃ ns : List Int, ts = [.scr (ns.map T.int)] ∧ ns.length ≤ 63 ∧ ∀ bx, Bx bx → Q (.new bx) []
theorem sc__law_box : FnScope ["_law_script", "_law_seed", "_law_k"] ["_law_script"] (defScope s__law_box) := ⟨rfl, rfl, rfl, by decide +kernel, rfl, by decide +kernel, by decide +kernel⟩
theorem ok__law_box (T : Txt K mg D) : FnOk P w K mg base CX0 1 D.a__law_box D.d__law_box ["_law_script"] (vsp K [false] spBox) := by
  refine VL.okV T.F__law_box sc__law_box rfl (by decide) (fun cdv A outer s H E hr => have hu := VL.huR hr; ⟨_, (pss_cons (ps_set (i := 1) sc__law_box.nd rfl (Or.inl rfl) pe_int)
      (pss_cons (ps_for PassesOwn.never rfl (pi_range1 (by rfl) T.n_range (pa_cons (pe_callB (VL.call_min2U rfl) (by rfl) T.n_min (by decide +kernel) (pa_cons pe_int (pa_cons (pe_callB VL.call_lenU (by rfl) T.n_len (by decide +kernel) (pa_cons (pv 0) pa_nil)) pa_nil))) pa_nil)) (pg_name (i := 2) sc__law_box.nd rfl (Or.inl rfl))
      (pss_one (ps_set (i := 1) sc__law_box.nd rfl (Or.inl rfl) (pe_op VL.op_addU (pv 1) (pe_op VL.op_mulU (pe_op op_mod (pe_callTy VL.call_intU (by rfl) T.n_int (by decide +kernel) (pa_cons (pe_ix ix_seq (pv 0) (pv 2) (fun _ _ => rfl)) pa_nil)) pe_int) (pe_op VL.op_addU (pv 2) pe_int))))))
      (pss_one (ps_ret (pe_lst (pa_cons (pe_slice VL.sl_any (pv 0) po_none (po_some pe_int)) (pa_cons pe_int (pa_cons pe_int (pa_cons pe_int (pa_cons (pv 1) pa_nil)))))))))), ?_⟩)
  apply VL.wvI
  · intro B; walk_at "vi"
  · intro ts Qv Xv h
    obtain ⟨ns, rfl, h63, k⟩ := h
    walk_at "V"
    rw [List.length_map]
    refine for_rngF (β := Int) (fun γ s => γ.set 1 (.val (.int s))) (fun _ _ => True) (Nx.mk 0 (by walk_at "le") trivial) ?_ ?_
    · rintro i s hi _
      obtain ⟨z, hz, e⟩ := at_map (f := VL.T.int) (xs := ns) (i := 0 + (i : Int)) (by omega) (by omega)
      walk_at "V"
      exact Nx.mk _ (by walk_at "le") trivial
    · rintro s _
      walk_at "V"
      rw [cutT_loM VL.T.int ns (by decide)]
      exact k _ ⟨ns.take (Int.toNat 63), 0, 0, 0, s, rfl, by omega, by omega⟩
def spDraw : VSp := fun ts Q _ => ∃ (bx : T) (n : Int), ts = [bx, .int n] ∧ Bx bx ∧ 0 < n ∧ n < 2 ^ 63 ∧ ∀ r bx', 0 ≤ r → r < n → Bx bx' → Q (.val (.int r)) [bx']
theorem sc__law_draw : FnScope ["_law_box_here", "_law_size", "_law_turn", "_law_cell", "_law_rest", "_law_once", "_law_twice"] ["_law_box_here", "_law_size"] (defScope s__law_draw) := ⟨rfl, rfl, rfl, by decide +kernel, rfl, by decide +kernel, by decide +kernel⟩
theorem ok__law_draw (T : Txt K mg D) : FnOk P w K mg base CX0 1 D.a__law_draw D.d__law_draw ["_law_box_here", "_law_size"] (vsp K [true, false] spDraw) := by
  refine VL.okV T.F__law_draw sc__law_draw rfl (by decide) (fun cdv A outer s H E hr => have hu := VL.huR hr; ⟨_, (pss_cons (ps_set (i := 2) sc__law_draw.nd rfl (Or.inl rfl) (pe_ix ix_seq (pv 0) pe_int (fun _ _ => rfl)))
      (pss_cons (ps_asg (pe_op VL.op_addU (pv 2) pe_int) (pg_sub (pv 0) pe_int set_list))
      (pss_cons (ps_set (i := 3) sc__law_draw.nd rfl (Or.inl rfl) (pe_ix ix_seq (pv 0) pe_int (fun _ _ => rfl)))
      (Evl.pss_cut (ps_if (PW.pt (pw_and (pt_cmpR (op_eqD (VL.hu64 hu)) (pe_ix ix_seq (pv 0) pe_int (fun _ _ => rfl)) pe_int (nomark _)) (pw_and1 (pt_cmpR op_lt (pe_ix ix_seq (pv 0) pe_int (fun _ _ => rfl)) (pe_callB VL.call_lenU (by rfl) T.n_len (by decide +kernel) (pa_cons (pe_ix ix_seq (pv 0) pe_int (fun _ _ => rfl)) pa_nil)) (nomark _)))))
      (pss_cons (ps_set (i := 3) sc__law_draw.nd rfl (Or.inl rfl) (pe_callTy VL.call_intU (by rfl) T.n_int (by decide +kernel) (pa_cons (pe_ix ix_seq (pe_ix ix_seq (pv 0) pe_int (fun _ _ => rfl)) (pe_ix ix_seq (pv 0) pe_int (fun _ _ => rfl)) (fun _ _ => rfl)) pa_nil)))
      (pss_cons (ps_asg (pe_op VL.op_addU (pe_ix ix_seq (pv 0) pe_int (fun _ _ => rfl)) pe_int) (pg_sub (pv 0) pe_int set_list))
      (pss_one (ps_if (pt_cmpR op_ge (pe_callB VL.call_absU (by rfl) T.n_abs (by decide +kernel) (pa_cons (pv 3) pa_nil)) (pe_op op_pow pe_int pe_int) (nomark _))
      (pss_one (ps_asg (pe_callB VL.call_absU (by rfl) T.n_abs (by decide +kernel) (pa_cons (pv 3) pa_nil)) (pg_sub (pv 0) pe_int set_list)))
      pss_nil))))
      pss_nil)
      (pss_cons (ps_if (pt_cmpR op_gt (pe_ix ix_seq (pv 0) pe_int (fun _ _ => rfl)) pe_int (nomark _))
      (pss_cons (ps_set (i := 4) sc__law_draw.nd rfl (Or.inl rfl) (pe_callTy VL.call_intU (by rfl) T.n_int (by decide +kernel) (pa_cons (pe_ix ix_seq (pv 0) pe_int (fun _ _ => rfl)) pa_nil)))
      (pss_cons (ps_asg (pe_op op_fdivW (pv 4) (pv 1)) (pg_sub (pv 0) pe_int set_list))
      (pss_one (ps_ret (pe_op op_mod (pv 4) (pv 1))))))
      pss_nil)
      (pss_cons (ps_set (i := 5) sc__law_draw.nd rfl (Or.inl rfl) (pe_op op_mod (pe_callTy VL.call_intU (by rfl) T.n_int (by decide +kernel) (pa_cons (pe_op VL.op_addU (pe_op VL.op_addU (pe_op VL.op_mulU (pv 3) pe_int) (pe_op VL.op_mulU (pv 2) pe_int)) pe_int) pa_nil)) pe_int))
      (pss_cons (ps_set (i := 6) sc__law_draw.nd rfl (Or.inl rfl) (pe_op op_mod (pe_callTy VL.call_intU (by rfl) T.n_int (by decide +kernel) (pa_cons (pe_op VL.op_addU (pe_op VL.op_addU (pe_op VL.op_mulU (pv 5) (pv 5)) (pe_op VL.op_mulU (pv 3) pe_int)) (pe_op VL.op_mulU (pv 2) pe_int)) pa_nil)) pe_int))
      (pss_one (ps_ret (pe_op op_mod (pe_callTy VL.call_intU (by rfl) T.n_int (by decide +kernel) (pa_cons (pe_op VL.op_addU (pe_op VL.op_addU (pv 6) (pe_op VL.op_mulU pe_int (pv 5))) (pe_op VL.op_mulU pe_int (pv 3))) pa_nil)) (pv 1))))))))))), ?_⟩)
  apply VL.wvI
  · intro B; walk_at "vi"
  · intro ts Qv Xv h
    obtain ⟨bx, n, rfl, hB, hn, hn2, k⟩ := h
    obtain ⟨cs, i, big, turn, seed, rfl, hi, hbig⟩ := hB
    walk_at "V"
    refine cut_st (β := VL.T × Int) (fun s => ⟨1, [qR 0, qI n, qI turn, qI s.2, none, none, none], [.mu s.1]⟩) (fun s => ∃ i' big', s.1 = .lst [.lst (cs.map VL.T.int), .int i', .int big', .int (turn + 1), .int seed] ∧ 0 ≤ i' ∧ 0 ≤ big') ?_ ?_
    · walk_at "V"
      walk_at "vb"
      · walk_at "V"
        rw [List.length_map]
        walk_at "vb"
        · obtain ⟨z, hz, e⟩ := at_map (f := VL.T.int) (xs := cs) (i := i) hi hbr
          walk_at "V"
          walk_at "vb"
          · walk_at "V"
            exact Nx.mk (_, _) (by walk_at "le") ⟨_, _, rfl, by omega, by omega⟩
          · exact Nx.mk (_, _) (by walk_at "le") ⟨_, _, rfl, by omega, hbig⟩
        · exact Nx.mk (_, _) (by walk_at "le") ⟨_, _, rfl, hi, hbig⟩
      · exact Nx.mk (_, _) (by walk_at "le") ⟨_, _, rfl, hi, hbig⟩
    · rintro ⟨b1, cell⟩ ⟨i1, big1, e1, hi1, hbig1⟩
      walk_at "d"
      subst e1
      walk_at "V"
      walk_at "vb"
      · walk_at "V"
        exact k _ _ (Int.emod_nonneg _ (by omega)) (Int.emod_lt_of_pos _ hn) ⟨cs, i1, big1 / n, _, _, rfl, hi1, Int.ediv_nonneg hbig1 (by omega)⟩
      · walk_at "V"
        exact k _ _ (Int.emod_nonneg _ (by omega)) (Int.emod_lt_of_pos _ hn) ⟨cs, i1, big1, _, _, rfl, hi1, hbig1⟩
def spNum : VSpF := fun ts Q => ∃ x : Int, ts = [.int x] ∧ Q (.bl true)
theorem sc__law_is_number : FnScope ["_law_value"] ["_law_value"] (defScope s__law_is_number) := ⟨rfl, rfl, rfl, by decide +kernel, rfl, by decide +kernel, by decide +kernel⟩
theorem okv__law_is_number (T : Txt K mg D) : FnOk P w K mg base CX0 1 D.a__law_is_number D.d__law_is_number ["_law_value"] (vsp K (VL.falses 1) (VL.ofF spNum)) := by
  refine VL.okV T.F__law_is_number sc__law_is_number rfl (by decide) (fun cdv A outer s H E hr => have hu := VL.huR hr; ⟨_, (pss_one (ps_ret (pe_and (pe_callB call_isi (by rfl) T.n_isinstance (by decide +kernel) (pa_cons (pv 0) (pa_cons (pe_bltn (v := .ty "int") (u := .type "int") (by rfl) T.n_int (by decide +kernel) rfl) pa_nil))) (pe_one (pe_not (pe_callB call_isi (by rfl) T.n_isinstance (by decide +kernel) (pa_cons (pv 0) (pa_cons (pe_bltn (v := .ty "bool") (u := .type "bool") (by rfl) T.n_bool (by decide +kernel) rfl) pa_nil)))))))), ?_⟩)
  apply VL.wvI
  · intro B; walk_at "vi"
  · intro ts Qv Xv h
    obtain ⟨Q0, ⟨x, rfl, k⟩, kq⟩ := h
    walk_at "V"
    exact kq _ rfl k
theorem ok__law_is_number (T : Txt K mg D) : FnOk P w K mg base CX0 1 D.a__law_is_number D.d__law_is_number ["_law_value"] (vspF K spNum) := VL.okF (okv__law_is_number T) (fun ts Q h => by obtain ⟨x, rfl, _⟩ := h; rfl)
theorem okvq__law_is_number (T : Txt K mg D) : XR.FnQ P w K mg base 1 D.a__law_is_number D.d__law_is_number ["_law_value"] (fun _ => (vsp K (VL.falses 1) (VL.ofF spNum))) := by
  refine VL.okVQ T.F__law_is_number sc__law_is_number rfl (by decide) (fun cdv A outer s H p hr => have hu := VL.huH hr; ⟨_, (pss_one (ps_ret (pe_and (pe_callB call_isi (by rfl) T.n_isinstance (by decide +kernel) (pa_cons (pv 0) (pa_cons (pe_bltn (v := .ty "int") (u := .type "int") (by rfl) T.n_int (by decide +kernel) rfl) pa_nil))) (pe_one (pe_not (pe_callB call_isi (by rfl) T.n_isinstance (by decide +kernel) (pa_cons (pv 0) (pa_cons (pe_bltn (v := .ty "bool") (u := .type "bool") (by rfl) T.n_bool (by decide +kernel) rfl) pa_nil)))))))), ?_⟩)
  apply VL.wvI
  · intro B; walk_at "vi"
  · intro ts Qv Xv h
    obtain ⟨Q0, ⟨x, rfl, k⟩, kq⟩ := h
    walk_at "V"
    exact kq _ rfl k
theorem okq__law_is_number (T : Txt K mg D) : XR.FnQ P w K mg base 1 D.a__law_is_number D.d__law_is_number ["_law_value"] (fun _ => vspF K spNum) := VL.okFQ (okvq__law_is_number T) (fun ts Q h => by obtain ⟨x, rfl, _⟩ := h; rfl)
end
end Toy
set_option Elab.async false
set_option linter.all false
set_option maxRecDepth 100000
set_option maxHeartbeats 4000000
set_option synthInstance.maxSize 1000000
set_option synthInstance.maxHeartbeats 4000000
namespace Toy
open PySem L2 XR VL
local macro_rules | `(tactic| walk_at "ne") => `(tactic| first | assumption | (apply Ne.symm; assumption) | exact XR.ne_fresh (by assumption) (by walk_at "hp") | exact Ne.symm (XR.ne_fresh (by assumption) (by walk_at "hp")))
local macro_rules | `(tactic| walk_at "hp") => `(tactic| first | assumption | exact upd_same | (refine Eq.trans (upd_ne ?_) ?_; (walk_at "ne"); walk_at "hp"))
local macro_rules | `(tactic| walk_at "sq") => `(tactic| first | walk_at "hp" | exact SqL.of (by walk_at "hp") | exact SqT.of (by walk_at "hp") | exact XR.SqT.same (by assumption) (by assumption) | exact XR.SqL.same (by assumption) (by assumption))
local macro_rules | `(tactic| walk_at "br") => `(tactic| (refine ite2 ?_ ?_ <;> intro hbr <;> (try simp only [decide_eq_true_eq, decide_eq_false_iff_not, V.int.injEq, V.bl.injEq, V.str.injEq, Bool.not_eq_true, Bool.not_eq_eq_eq_not, Bool.not_true, Bool.not_false, ne_eq, Int.reduceToNat, Int.reducePow, Int.reduceMul, Int.reduceAdd, Int.reduceSub, reduceCtorEq, not_true_eq_false, not_false_eq_true, Int.not_lt, Int.not_le] at hbr)))
local macro_rules | `(tactic| walk_at "side") => `(tactic| first
  | exact ⟨by decide, by decide, by decide⟩
  | exact .inl ⟨by decide, by decide⟩
  | exact .inr ⟨by decide, by decide⟩
  | exact XR.divw (by first | decide | omega) (by first | decide | omega)
  | (show (_ : Int) = _; first | rfl | omega)
  | (show (0 : Int) < _; first | decide | assumption | omega)
  | exact .inl ⟨by omega, by omega⟩
  | exact .inr ⟨by omega, by omega⟩
  | exact .inl (XR.cmul_mod (by decide))
  | exact XR.log_lt (by omega) (by omega)
  | decide
  | (rw [sizeLine_eq]; simp; done)
  | (show 2 ≤ sizeLine; decide) | (show 3 ≤ sizeLine; decide) | (show 4 ≤ sizeLine; decide) | (show 5 ≤ sizeLine; decide) | (show 6 ≤ sizeLine; decide) | (show 7 ≤ sizeLine; decide) | (show 1 ≤ sizeLine; decide) | (show 8 ≤ sizeLine; decide) | (show 0 ≤ sizeLine; decide))
local macro_rules | `(tactic| walk_at "rd1") => `(tactic| first
  | refine ⟨_, rfl, ?_⟩
  | refine ⟨_, _, rfl, rfl, ?_⟩
  | refine ⟨_, _, _, _, rfl, rfl, (by walk_at "sq"), rfl, ?_⟩
  | refine ⟨_, _, _, _, rfl, rfl, (by walk_at "hp"), (by walk_at "hp"), (by walk_at "side"), ?_⟩
  | refine ⟨_, _, rfl, .inl (by walk_at "sq"), ?_⟩
  | refine ⟨_, _, rfl, .inl ⟨(by walk_at "sq"), ?_⟩⟩
  | refine ⟨_, _, rfl, .inr (by walk_at "sq"), ?_⟩
  | refine ⟨_, _, _, _, _, rfl, (by walk_at "hp"), (by walk_at "cls"), (by walk_at "noat"), rfl, ?_⟩
  | refine ⟨_, _, _, _, rfl, rfl, (by walk_at "sq"), (by first | assumption | exact XR.at0 | exact XR.at1), ?_⟩
  | refine ⟨rfl, ?_⟩
  | refine And.intro (by walk_at "side") ?_
  | refine .inl ⟨_, rfl, ?_⟩
  | refine And.intro ⟨_, (by walk_at "sq")⟩ ?_
  | refine ⟨_, _, rfl, (by walk_at "sq"), ?_⟩
  | refine ⟨_, _, rfl, ?_⟩
  | refine .inr ⟨_, rfl, (by walk_at "side"), ?_⟩
  | refine ⟨_, _, _, rfl, (by walk_at "hp"), ?_⟩
  | refine iteT ?_
  | refine iteF ?_)
local macro_rules | `(tactic| walk_at "rd") => `(tactic| repeat (walk_at "rd1"))
local macro_rules | `(tactic| walk_at "nn") => `(tactic| (simp only [Int.reduceToNat, Int.reducePow, Int.reduceMul, Int.reduceAdd, Int.reduceSub, Int.reduceNeg]))
local macro_rules | `(tactic| walk_at "dr") => `(tactic| repeat (first | refine And.intro (by first | assumption | walk_at "pre") ?_ | refine And.intro (by first | decide | omega) ?_))
local macro_rules | `(tactic| walk_at "vi") => `(tactic| ((try dsimp only [L2.cxOf, L2.Cx.nox, L2.Cx.wish, L2.Cx.blk, L2.Cx.suite, L2.Cx.tr, L2H.cxH, List.map_cons, List.map_nil]); (try simp only [List.map_cons, List.map_nil]); infer_instance))
local macro_rules | `(tactic| walk_at "w") => `(tactic| conv => whnf)
local macro_rules | `(tactic| walk_at "sz") => `(tactic| first
  | (show _ ≤ sizeLine; rw [sizeLine_eq]; first | decide | omega | (simp; done) | (simp; omega))
  | (show _ < sizeLine; rw [sizeLine_eq]; first | decide | omega | (simp; done) | (simp; omega)))
local macro_rules | `(tactic| walk_at "ok") => `(tactic| first
  | exact encInt.list.ok (by decide) _ | exact encInt.tupl.ok (by decide) _ | exact encStr.list.ok (by decide) _ | exact encStr.tupl.ok (by decide) _
  | exact (encInt.pair encInt).list.ok (by decide) _ | exact (encInt.pair encInt).ok (by decide) _ | exact (encStr.pair encStr).list.ok (by decide) _ | exact (encStr.pair encStr).ok (by decide) _
  | exact encInt.tupl.list.ok (by decide) _)
local macro_rules | `(tactic| walk_at "vs") => `(tactic| first
  | exact trivial
  | assumption
  | exact rfl
  | exact ⟨rfl, rfl⟩
  | walk_at "ok"
  | walk_at "sz"
  | exact .inl (.inr ⟨by decide, by decide⟩)
  | exact .inl (.inl ⟨by first | decide | omega, by first | decide | omega⟩)
  | exact .inl (.inr ⟨by first | decide | omega, by first | decide | omega⟩)
  | exact XR.divw (by first | decide | omega) (by first | decide | omega)
  | (show (0 : Int) < _; first | decide | omega)
  | exact ⟨by first | decide | omega, by first | decide | omega⟩
  | exact ⟨by first | decide | omega, by first | decide | omega, by first | decide | omega⟩
  | exact ⟨by walk_at "sz", by omega, by omega⟩
  | exact ⟨by walk_at "cls", by walk_at "noat"⟩
  | exact ⟨by walk_at "xf", by walk_at "xe"⟩
  | walk_at "exm"
  | decide
  | exact XR.log_lt (by omega) (by omega)
  | ((try dsimp only); (try simp only [List.length_map, List.length_append, List.length_cons, List.length_nil, List.length_eraseIdx]); omega))
local macro_rules | `(tactic| walk_at "v") => `(tactic| (walk_at "w"; (repeat ((first | refine And.intro (by walk_at "vs") ?_ | refine isS_i (by assumption) ?_); walk_at "w")); (try walk_at "n")))
local macro_rules | `(tactic| walk_at "isi") => `(tactic| first | refine ⟨_, VL.IsI.int_int _, ?_⟩ | refine ⟨_, VL.IsI.int_bool _, ?_⟩ | refine ⟨_, VL.IsI.int_str _, ?_⟩ | refine ⟨_, VL.IsI.int_list _, ?_⟩ | refine ⟨_, VL.IsI.int_tuple _, ?_⟩ | refine ⟨_, VL.IsI.bl_int _, ?_⟩ | refine ⟨_, VL.IsI.bl_bool _, ?_⟩ | refine ⟨_, VL.IsI.bl_str _, ?_⟩ | refine ⟨_, VL.IsI.str_str _, ?_⟩ | refine ⟨_, VL.IsI.str_int _, ?_⟩ | refine ⟨_, VL.IsI.str_bool _, ?_⟩ | refine ⟨_, VL.IsI.lst_list _, ?_⟩ | refine ⟨_, VL.IsI.lst_tuple _, ?_⟩ | refine ⟨_, VL.IsI.tup_list _, ?_⟩ | refine ⟨_, VL.IsI.tup_tuple _, ?_⟩ | refine ⟨_, VL.IsI.tup_str _, ?_⟩ | refine ⟨_, VL.IsI.tup_int _, ?_⟩ | refine ⟨_, VL.IsI.dk_dict _, ?_⟩ | refine ⟨_, VL.IsI.non_int, ?_⟩ | refine ⟨_, VL.IsI.non_tuple, ?_⟩ | refine ⟨_, VL.IsI.non_list, ?_⟩ | refine ⟨_, VL.IsI.non_str, ?_⟩)
local macro_rules | `(tactic| walk_at "V") => `(tactic| (walk_at "w"; (repeat ((first | refine And.intro (by walk_at "vs") ?_ | refine isS_i (by assumption) ?_ | refine Or.inr ?_ | walk_at "isi" | walk_at "eis" | refine ⟨_, rfl, ?_⟩); walk_at "w")); (try walk_at "n")))
set_option hygiene false
local macro_rules | `(tactic| walk_at "vb") => `(tactic| (refine br_i ?_ ?_ <;> intro hbr <;> (try simp only [nb, decide_eq_true_eq, decide_eq_false_iff_not, Bool.not_eq_true, Bool.not_eq_eq_eq_not, Bool.not_true, Bool.not_false, ne_eq, Bool.and_eq_true, Bool.or_eq_true, Bool.and_eq_false_imp, Decidable.not_not, Int.not_lt, Int.not_le, bne_iff_ne, Bool.not_eq_false, Bool.or_eq_false_iff, reduceCtorEq, not_true_eq_false, not_false_eq_true] at hbr)))
set_option hygiene true
local macro_rules | `(tactic| walk_at "le") => `(tactic| exact VL.Le.to rfl (Nat.le_of_ble_eq_true rfl))
local macro_rules | `(tactic| walk_at "d") => `(tactic| dsimp only at *)
local macro_rules | `(tactic| walk_at "n") => `(tactic| dsimp only [VL.env0, VL.slots0, VL.mem0, VL.nones, VL.falses, VL.put_mk, VL.push_mk, VL.set_mk, VL.unset_mk, VL.wipe_nl, VL.wipe_cs, VL.el_mk, VL.ed_mk, VL.es_mk, VL.frs_nl, VL.frs_cs, VL.fr_mk, VL.frX, VL.frSl, VL.nth, Nat.reduceAdd, Nat.reduceSub, Nat.reduceMul, Nat.reduceBEq, List.set, List.length_cons, List.length_nil, List.cons_append, List.nil_append, VL.qI, VL.qT, VL.qR])
local macro_rules | `(tactic| walk_at "cls") => `(tactic| first | exact T_cl_RemainderTable (by assumption))
local macro_rules | `(tactic| walk_at "noat") => `(tactic| first | exact Txt.no_RemainderTable_rows (by assumption))
local macro_rules | `(tactic| walk_at "eis") => `(tactic| first | fail)
local macro_rules | `(tactic| walk_at "exm") => `(tactic| first | fail)
local macro_rules | `(tactic| walk_at "xf") => `(tactic| first | fail)
local macro_rules | `(tactic| walk_at "xe") => `(tactic| first | fail)
local macro_rules | `(tactic| walk_at "isi") => `(tactic| first | refine ⟨_, VL.IsI.mk _ _ (.obj (fun _ _ _ _ e => T_ty_RemainderTable (by assumption) e)) (.cls _) (Txt.zo_RemainderTable_RemainderTable (by assumption)), ?_⟩ | refine ⟨_, VL.IsI.mk _ _ (.obj (fun _ _ _ _ e => T_ty_RemainderTable (by assumption) e)) (.ty _) (Txt.zo_RemainderTable_bool (by assumption)), ?_⟩ | refine ⟨_, VL.IsI.mk _ _ (.obj (fun _ _ _ _ e => T_ty_RemainderTable (by assumption) e)) (.ty _) (Txt.zo_RemainderTable_int (by assumption)), ?_⟩ | refine ⟨_, VL.IsI.mk _ _ (.obj (fun _ _ _ _ e => T_ty_RemainderTable (by assumption) e)) (.ty _) (Txt.zo_RemainderTable_list (by assumption)), ?_⟩ | refine ⟨_, VL.IsI.mk _ _ (.obj (fun _ _ _ _ e => T_ty_RemainderTable (by assumption) e)) (.ty _) (Txt.zo_RemainderTable_tuple (by assumption)), ?_⟩)
section
variable {P : Program} {w : World} {K : PySem.W.Frag} {mg : Str → Option Value} {base : Heap} {D : Ad}
/-! ### sightings, rows -/
abbrev Sg := Int × Int
def tP (p : Sg) : T := .tup [.int p.1, .int p.2]
theorem encP : Enc tP 1 := encInt.pair encInt
abbrev Rw := Int × Int × Int
def tR (r : Rw) : T := .tup [.int r.1, .int r.2.1, .int r.2.2]
theorem encR : Enc tR 1 := encInt.trip encInt encInt
def tO : Option Int → T
  | none => .non
  | some x => .int x
def dmd (n : Int) (s : Sg) : Option Int := if s.2 < n then some ((s.2 - s.1) % n) else none
def rowOf (ss : List Sg) (n : Int) : List (Option Int) := ss.map (dmd n)
/-- two sightings that no cycle of this length meets, or one whose place is too great -/
def FT (ss : List Sg) (n : Int) (i j : Nat) : Bool :=
  match ss[i]?, ss[j]? with
  | some a, some b => if i = j then decide (n ≤ a.2) else decide (a.2 < n ∧ b.2 < n ∧ (a.2 - a.1 - b.2 + b.1) % n ≠ 0)
  | _, _ => false
/-- as the row tells it -/
def FR (row : List (Option Int)) (i j : Nat) : Bool :=
  match row[i]?, row[j]? with
  | some a, some b => if i = j then a.isNone else a.isSome && b.isSome && decide (a ≠ b)
  | _, _ => false
theorem ft_fr (ss : List Sg) (n : Int) (i j : Nat) : FR (rowOf ss n) i j = FT ss n i j := by
  unfold FR FT rowOf
  rw [List.getElem?_map, List.getElem?_map]
  cases ss[i]? with
  | none => rfl
  | some a =>
    cases ss[j]? with
    | none => rfl
    | some b =>
      show (if i = j then (dmd n a).isNone else (dmd n a).isSome && (dmd n b).isSome && decide (dmd n a ≠ dmd n b)) = if i = j then decide (n ≤ a.2) else decide (a.2 < n ∧ b.2 < n ∧ (a.2 - a.1 - b.2 + b.1) % n ≠ 0)
      unfold dmd
      by_cases e : i = j
      · rw [if_pos e, if_pos e]
        by_cases h : a.2 < n
        · rw [if_pos h]; symm; exact decide_eq_false (by omega)
        · rw [if_neg h]; symm; exact decide_eq_true (by omega)
      · rw [if_neg e, if_neg e]
        by_cases h : a.2 < n
        · by_cases h2 : b.2 < n
          · rw [if_pos h, if_pos h2]
            have q := Int.emod_emod_of_dvd
            have w : ((a.2 - a.1) % n = (b.2 - b.1) % n) ↔ (a.2 - a.1 - b.2 + b.1) % n = 0 := by
              rw [Int.emod_eq_emod_iff_emod_sub_eq_zero, show a.2 - a.1 - (b.2 - b.1) = a.2 - a.1 - b.2 + b.1 by omega]
            simp only [Option.isSome_some, Bool.and_self, Bool.true_and, ne_eq, Option.some.injEq, w, h, h2, true_and]
          · rw [if_pos h, if_neg h2]
            simp [h2]
        · rw [if_neg h]
          simp [h]
def upto (m : Nat) (f : Nat → Nat → Bool) (n : Int) (i k : Nat) : List Rw := ((List.range k).filter fun d => f i (i + d)).map fun d => (n, (i : Int), ((i + d : Nat) : Int))
/-- all that fit, in order -/
def allF (m : Nat) (f : Nat → Nat → Bool) (n : Int) (i : Nat) : List Rw := (List.range i).flatMap fun a => upto m f n a (m - a)
theorem upto_succ {m : Nat} {f : Nat → Nat → Bool} {n : Int} {i k : Nat} : upto m f n i (k + 1) = upto m f n i k ++ if f i (i + k) then [(n, (i : Int), ((i + k : Nat) : Int))] else [] := by
  unfold upto
  rw [List.range_succ, List.filter_append, List.map_append]
  congr 1
  cases h : f i (i + k) <;> simp [h]
theorem allF_succ {m : Nat} {f : Nat → Nat → Bool} {n : Int} {i : Nat} : allF m f n (i + 1) = allF m f n i ++ upto m f n i (m - i) := by
  unfold allF
  rw [List.range_succ, List.flatMap_append]
  simp
theorem upto_len {m : Nat} {f : Nat → Nat → Bool} {n : Int} {i : Nat} : ∀ k, (upto m f n i k).length ≤ k
  | 0 => Nat.le_refl _
  | k + 1 => by
    rw [upto_succ, List.length_append]
    have := upto_len (m := m) (f := f) (n := n) (i := i) k
    split
    · simp; omega
    · simp; omega
theorem allF_len {m : Nat} {f : Nat → Nat → Bool} {n : Int} : ∀ i, (allF m f n i).length ≤ i * m
  | 0 => by simp [allF]
  | i + 1 => by
    rw [allF_succ, List.length_append, Nat.succ_mul]
    have := allF_len (m := m) (f := f) (n := n) i
    have := upto_len (m := m) (f := f) (n := n) (i := i) (m - i)
    omega
theorem mem_allF {m : Nat} {f : Nat → Nat → Bool} {n : Int} {r : Rw} : r ∈ allF m f n m ↔ ∃ i j : Nat, i ≤ j ∧ j < m ∧ f i j = true ∧ r = (n, (i : Int), (j : Int)) := by
  unfold allF upto
  rw [List.mem_flatMap]
  constructor
  · rintro ⟨a, ha, h⟩
    obtain ⟨d, hd, rfl⟩ := List.mem_map.mp h
    obtain ⟨h1, h2⟩ := List.mem_filter.mp hd
    have h1 := List.mem_range.mp h1
    exact ⟨a, a + d, Nat.le_add_right _ _, by omega, h2, rfl⟩
  · rintro ⟨i, j, h1, h2, h3, rfl⟩
    refine ⟨i, List.mem_range.mpr (by omega), List.mem_map.mpr ⟨j - i, List.mem_filter.mpr ⟨List.mem_range.mpr (by omega), ?_⟩, ?_⟩⟩
    · rw [show i + (j - i) = j by omega]; exact h3
    · rw [show i + (j - i) = j by omega]
def ltR (p q : Rw) : Prop := p.2.1 < q.2.1 ∨ (p.2.1 = q.2.1 ∧ p.2.2 < q.2.2)
theorem allF_ord {m : Nat} {f : Nat → Nat → Bool} {n : Int} : (allF m f n m).Pairwise ltR := by
  unfold allF
  refine List.pairwise_flatMap.mpr ⟨fun a _ => ?_, ?_⟩
  · unfold upto
    refine List.pairwise_map.mpr (((List.pairwise_lt_range (n := m - a)).filter _).imp fun {x y} h => .inr ⟨rfl, ?_⟩)
    show ((a + x : Nat) : Int) < ((a + y : Nat) : Int)
    omega
  · refine (List.pairwise_lt_range (n := m)).imp fun {a b} h x hx y hy => ?_
    obtain ⟨d, _, rfl⟩ := List.mem_map.mp hx
    obtain ⟨e, _, rfl⟩ := List.mem_map.mp hy
    exact .inl (by show (a : Int) < (b : Int); omega)
/-- the head is the least -/
theorem head_least {m : Nat} {f : Nat → Nat → Bool} {n : Int} {i j : Nat} (h1 : i ≤ j) (h2 : j < m) (h3 : f i j = true) (h : ∀ a b : Nat, a ≤ b → b < m → f a b = true → i < a ∨ (i = a ∧ j ≤ b)) : ∃ l, allF m f n m = (n, (i : Int), (j : Int)) :: l := by
  have mm := (mem_allF (n := n)).mpr ⟨i, j, h1, h2, h3, rfl⟩
  have o := allF_ord (m := m) (f := f) (n := n)
  cases e : allF m f n m with
  | nil => rw [e] at mm; cases mm
  | cons x l =>
    refine ⟨l, ?_⟩
    rw [e] at mm o
    obtain ⟨a, b, a1, a2, a3, rfl⟩ := mem_allF.mp (e ▸ List.mem_cons_self : x ∈ allF m f n m)
    have q := h a b a1 a2 a3
    rcases List.mem_cons.mp mm with z | z
    · rw [z]
    · have z2 := (List.pairwise_cons.mp o).1 _ z
      unfold ltR at z2
      dsimp only at z2
      omega
theorem nil_none {m : Nat} {f : Nat → Nat → Bool} {n : Int} : allF m f n m = [] ↔ ∀ a b : Nat, a ≤ b → b < m → f a b = false := by
  constructor
  · intro e a b h1 h2
    cases q : f a b with
    | false => rfl
    | true =>
      have := (mem_allF (n := n)).mpr ⟨a, b, h1, h2, q, rfl⟩
      rw [e] at this
      cases this
  · intro h
    cases e : allF m f n m with
    | nil => rfl
    | cons x l =>
      obtain ⟨a, b, a1, a2, a3, _⟩ := mem_allF.mp (e ▸ List.mem_cons_self : x ∈ allF m f n m)
      rw [h a b a1 a2] at a3
      cases a3
/-- what the row shuts by: an unlike entry, else one that is missing -/
def unl (row : List (Option Int)) (k : Nat) : Bool := match row[0]?, row[k]? with
  | some (some x), some (some y) => decide (y ≠ x)
  | _, _ => false
/-- the first places -/
def By (row : List (Option Int)) : Option (Nat × Nat) → Prop
  | none => (∀ k, unl row k = false) ∧ ∀ k : Nat, row[k]? ≠ some none
  | some (i, j) => (i = 0 ∧ unl row j = true ∧ ∀ k < j, unl row k = false) ∨ (i = j ∧ row[j]? = some none ∧ (∀ k, unl row k = false) ∧ ∀ k < j, row[k]? ≠ some none)
theorem unl_fr {row : List (Option Int)} {k : Nat} (h : unl row k = true) : k ≠ 0 ∧ k < row.length ∧ FR row 0 k = true := by
  unfold unl at h
  split at h
  · rename_i x y e1 e2
    have hn : y ≠ x := of_decide_eq_true h
    have k0 : k ≠ 0 := fun z => by
      subst z
      rw [e1] at e2
      exact hn (Option.some.inj (Option.some.inj e2)).symm
    refine ⟨k0, (List.getElem?_eq_some_iff.mp e2).1, ?_⟩
    unfold FR
    rw [e1, e2]
    show (if 0 = k then _ else _) = true
    rw [if_neg (fun z => k0 z.symm)]
    simpa using fun z => hn z.symm
  · cases h
theorem fr_cases {row : List (Option Int)} {a b : Nat} (h : FR row a b = true) : (a = b ∧ row[a]? = some none) ∨ (a ≠ b ∧ ∃ x y : Int, row[a]? = some (some x) ∧ row[b]? = some (some y) ∧ x ≠ y) := by
  unfold FR at h
  split at h
  · rename_i x y e1 e2
    split at h
    · rename_i e
      cases x with
      | none => exact .inl ⟨e, e1⟩
      | some x => cases h
    · rename_i e
      cases x with
      | none => cases h
      | some x => cases y with
        | none => cases h
        | some y => exact .inr ⟨e, x, y, e1, e2, fun z => by rw [z] at h; simp at h⟩
  · cases h
theorem fr_none {row : List (Option Int)} {k : Nat} (h : row[k]? = some none) : FR row k k = true := by
  unfold FR
  rw [h]
  show (if k = k then _ else _) = true
  rw [if_pos rfl]
  rfl
/-- where the row shuts is the least that fits -/
theorem by_least {row : List (Option Int)} {n : Int} {i j : Nat} (h : By row (some (i, j))) : ∃ l, allF row.length (FR row) n row.length = (n, (i : Int), (j : Int)) :: l := by
  rcases h with ⟨rfl, h1, h2⟩ | ⟨rfl, h1, h2, h3⟩
  · obtain ⟨j0, jl, f⟩ := unl_fr h1
    refine head_least (Nat.zero_le _) jl f fun a b ab bl fab => ?_
    rcases Nat.eq_zero_or_pos a with rfl | ha
    · refine .inr ⟨rfl, ?_⟩
      rcases Nat.lt_or_ge b j with z | z
      · exfalso
        have un := h2 b z
        unfold unl at h1 un
        rcases fr_cases fab with ⟨rfl, e⟩ | ⟨ne, x, y, e1, e2, xy⟩
        · rw [e] at h1; cases h1
        · rw [e1, e2] at un
          have un : y = x := by simpa using un
          exact xy un.symm
      · exact z
    · exact .inl ha
  · refine head_least (Nat.le_refl _) (List.getElem?_eq_some_iff.mp h1).1 (fr_none h1) fun a b ab bl fab => ?_
    rcases fr_cases fab with ⟨rfl, e⟩ | ⟨ne, x, y, e1, e2, xy⟩
    · have : ¬ a < i := fun z => h3 a z e
      omega
    · -- two unlike entries: then the first is missing
      have r0 : 0 < row.length := by omega
      have e0 : row[0]? = some row[0] := List.getElem?_eq_getElem r0
      cases q : row[0] with
      | none =>
        have hi : i = 0 := by
          rcases Nat.eq_zero_or_pos i with z | z
          · exact z
          · exact absurd (by rw [e0, q]) (h3 0 z)
        subst hi
        rcases Nat.eq_zero_or_pos a with rfl | ha
        · exact .inr ⟨rfl, Nat.zero_le _⟩
        · exact .inl ha
      | some z =>
        exfalso
        have ua := h2 a
        have ub := h2 b
        unfold unl at ua ub
        rw [e0, q, e1] at ua
        rw [e0, q, e2] at ub
        have ua : x = z := by simpa using ua
        have ub : y = z := by simpa using ub
        exact xy (ua.trans ub.symm)
theorem by_none {row : List (Option Int)} {n : Int} (h : By row none) : allF row.length (FR row) n row.length = [] := by
  refine nil_none.mpr fun a b ab bl => ?_
  cases fab : FR row a b with
  | false => rfl
  | true =>
    exfalso
    obtain ⟨h1, h2⟩ := h
    rcases fr_cases fab with ⟨rfl, e⟩ | ⟨ne, x, y, e1, e2, xy⟩
    · exact h2 a e
    · have r0 : 0 < row.length := by omega
      have e0 : row[0]? = some row[0] := List.getElem?_eq_getElem r0
      cases q : row[0] with
      | none => exact h2 0 (by rw [e0, q])
      | some z =>
        have ua := h1 a
        have ub := h1 b
        unfold unl at ua ub
        rw [e0, q, e1] at ua
        rw [e0, q, e2] at ub
        have ua : x = z := by simpa using ua
        have ub : y = z := by simpa using ub
        exact xy (ua.trans ub.symm)
/-- all that fit at a length, in order -/
def prs (ss : List Sg) (n : Int) : List Rw := allF ss.length (FT ss n) n ss.length
theorem prs_row (ss : List Sg) (n : Int) : prs ss n = allF (rowOf ss n).length (FR (rowOf ss n)) n (rowOf ss n).length := by
  unfold prs
  have : FR (rowOf ss n) = FT ss n := funext fun i => funext fun j => ft_fr ss n i j
  rw [this]
  unfold rowOf
  rw [List.length_map]
/-- the lengths between the bounds -/
def lens (lo hi : Int) : List Int := (List.range (hi + 1 - lo).toNat).map fun i => lo + (i : Nat)
/-- the rows: the first that fits, or the last -/
def rowsF (ss : List Sg) (lo hi : Int) : List Rw := (lens lo hi).filterMap fun n => (prs ss n).head?
def rowsL (ss : List Sg) (lo hi : Int) : List Rw := (lens lo hi).filterMap fun n => (prs ss n).getLast?
theorem sizes_eq (ss : List Sg) (lo hi : Int) : (rowsL ss lo hi).map Prod.fst = (rowsF ss lo hi).map Prod.fst := by
  unfold rowsL rowsF
  rw [List.map_filterMap, List.map_filterMap]
  refine congrArg (fun f => List.filterMap f (lens lo hi)) (funext fun n => ?_)
  cases e : prs ss n with
  | nil => rfl
  | cons x l =>
    have a1 : ∀ r ∈ prs ss n, r.1 = n := fun r hr => by
      obtain ⟨i, j, _, _, _, rfl⟩ := mem_allF.mp hr
      rfl
    have h1 := a1 x (by rw [e]; exact List.mem_cons_self)
    have h2 := a1 ((x :: l).getLast (by simp)) (by rw [e]; exact List.getLast_mem _)
    rw [List.getLast?_eq_some_getLast (by simp)]
    show some _ = some _
    rw [h1, h2]
/-- the law's reading of a row -/
def ftI (ss : List Sg) (n i j : Int) : Bool := decide (0 ≤ i ∧ i ≤ j ∧ j < (ss.length : Int)) && FT ss n i.toNat j.toNat
theorem ft_prs {ss : List Sg} {n : Int} {r : Rw} (h : r ∈ prs ss n) : r.1 = n ∧ ftI ss r.1 r.2.1 r.2.2 = true := by
  obtain ⟨i, j, h1, h2, h3, rfl⟩ := mem_allF.mp h
  refine ⟨rfl, ?_⟩
  unfold ftI
  rw [Bool.and_eq_true]
  exact ⟨decide_eq_true (by dsimp only; omega), h3⟩
def okRows (ss : List Sg) (rs : List Rw) : Bool := rs.all fun r => ftI ss r.1 r.2.1 r.2.2
theorem ok_rows {ss : List Sg} {lo hi : Int} : okRows ss (rowsF ss lo hi) = true ∧ okRows ss (rowsL ss lo hi) = true := by
  unfold okRows rowsF rowsL
  constructor
  · refine List.all_eq_true.mpr fun r hr => ?_
    obtain ⟨n, _, e⟩ := List.mem_filterMap.mp hr
    exact (ft_prs (List.mem_of_mem_head? e)).2
  · refine List.all_eq_true.mpr fun r hr => ?_
    obtain ⟨n, _, e⟩ := List.mem_filterMap.mp hr
    exact (ft_prs (List.mem_of_getLast? e)).2
/-- the judge's word -/
def judg (ss : List Sg) (lo hi : Int) (rs : List Rw) : Bool := decide (rs.map Prod.fst = (rowsF ss lo hi).map Prod.fst) && okRows ss rs
theorem mem_lens {lo hi n : Int} : n ∈ lens lo hi ↔ lo ≤ n ∧ n ≤ hi := by
  unfold lens
  rw [List.mem_map]
  constructor
  · rintro ⟨i, hi2, rfl⟩
    have := List.mem_range.mp hi2
    omega
  · intro h
    exact ⟨(n - lo).toNat, List.mem_range.mpr (by omega), by omega⟩
theorem size_lens {ss : List Sg} {lo hi : Int} {n : Int} (h : n ∈ (rowsF ss lo hi).map Prod.fst) : lo ≤ n ∧ n ≤ hi := by
  obtain ⟨r, hr, rfl⟩ := List.mem_map.mp h
  obtain ⟨m, hm, e⟩ := List.mem_filterMap.mp hr
  rw [(ft_prs (List.mem_of_mem_head? e)).1]
  exact mem_lens.mp hm
theorem rows_len {ss : List Sg} {lo hi : Int} (h1 : 1 ≤ lo) (h2 : hi ≤ 60) : (rowsF ss lo hi).length ≤ 60 ∧ (rowsL ss lo hi).length ≤ 60 := by
  have l : (lens lo hi).length ≤ 60 := by unfold lens; rw [List.length_map, List.length_range]; omega
  exact ⟨Nat.le_trans (List.length_filterMap_le _ _) l, Nat.le_trans (List.length_filterMap_le _ _) l⟩
/-! ### gaps -/
def bigs (p lo hi : Int) : List Int := (lens lo hi).filter fun n => decide (p < n)
def reach (p g lo hi : Int) : List Int := (bigs p lo hi).map fun n => (p + g) % n
theorem gap_mem {p o lo hi g : Int} (h1 : 1 ≤ lo) : o ∈ reach p g lo hi ↔ ∃ n, n ∈ (lens lo hi).filter (fun n => decide (p < n ∧ 0 ≤ o ∧ o < n)) ∧ n ∣ g - (o - p) := by
  unfold reach bigs
  rw [List.mem_map]
  constructor
  · rintro ⟨n, hn, rfl⟩
    obtain ⟨a, b⟩ := List.mem_filter.mp hn
    have b := of_decide_eq_true b
    have := mem_lens.mp a
    refine ⟨n, List.mem_filter.mpr ⟨a, decide_eq_true ⟨b, Int.emod_nonneg _ (by omega), Int.emod_lt_of_pos _ (by omega)⟩⟩, ?_⟩
    have := Int.emod_add_mul_ediv (p + g) n
    exact ⟨(p + g) / n, by omega⟩
  · rintro ⟨n, hn, k, e⟩
    obtain ⟨a, b⟩ := List.mem_filter.mp hn
    have b := of_decide_eq_true b
    refine ⟨n, List.mem_filter.mpr ⟨a, decide_eq_true b.1⟩, ?_⟩
    rw [show p + g = o + n * k by omega, Int.add_mul_emod_self_left, Int.emod_eq_of_lt b.2.1 b.2.2]
def SOk (ss : List Sg) : Prop := ss.length ≤ 6 ∧ ∀ s ∈ ss, (-(10 ^ 17) ≤ s.1 ∧ s.1 ≤ 10 ^ 17) ∧ 0 ≤ s.2 ∧ s.2 ≤ 2 * 10 ^ 17
def tSs (ss : List Sg) : T := .lst (ss.map tP)
def FRI (row : List (Option Int)) (i j : Int) : Bool := decide (0 ≤ i ∧ i ≤ j ∧ j < (row.length : Int)) && FR row i.toNat j.toNat
theorem fri (ss : List Sg) (n i j : Int) : FRI (rowOf ss n) i j = ftI ss n i j := by
  unfold FRI ftI
  rw [ft_fr]
  unfold rowOf
  rw [List.length_map]
def tBy : Option (Nat × Nat) → T
  | none => .non
  | some p => .tup [.int (p.1 : Int), .int (p.2 : Int)]
/-- the gaps that the law tells -/
def dueG (p o lo hi span : Int) : List Int := ((List.range (span + 1).toNat).filter fun d : Nat => decide (o ∈ reach p (d : Int) lo hi)).map fun (d : Nat) => (d : Int)
theorem nd_len : ∀ {l D : List Int}, l.Nodup → (∀ x ∈ l, x ∈ D) → l.length ≤ D.length
  | [], _, _, _ => Nat.zero_le _
  | x :: l, D, h, s => by
    obtain ⟨h1, h2⟩ := List.nodup_cons.mp h
    have m := s x List.mem_cons_self
    have q := nd_len (l := l) (D := D.erase x) h2 fun y hy => (List.mem_erase_of_ne (fun z : y = x => h1 (z ▸ hy))).mpr (s y (List.mem_cons_of_mem _ hy))
    rw [List.length_erase_of_mem m] at q
    have : 0 < D.length := List.length_pos_of_mem m
    rw [List.length_cons]
    omega
theorem nd_130 {l : List Int} {span : Int} (hs : span ≤ 130) (h : l.Nodup) (b : ∀ g ∈ l, 0 ≤ g ∧ g ≤ span) : l.length ≤ 131 := by
  have := nd_len (D := (List.range 131).map fun i : Nat => (i : Int)) h fun x hx => by
    have := b x hx
    exact List.mem_map.mpr ⟨x.toNat, List.mem_range.mpr (by omega), by omega⟩
  rwa [List.length_map, List.length_range] at this
theorem step_mem {r n span g : Int} (h0 : 0 ≤ r) (h1 : r < n) : (∃ m : Nat, m < stepN r (span + 1) n ∧ g = r + (m : Int) * n) ↔ (0 ≤ g ∧ g ≤ span ∧ n ∣ g - r) := by
  unfold stepN
  constructor
  · rintro ⟨m, hm, rfl⟩
    split at hm
    · have h2 : (m : Int) ≤ (span + 1 - r - 1) / n := by omega
      have h3 := Int.mul_le_of_le_ediv (show 0 < n by omega) h2
      have h4 := Int.mul_nonneg (Int.natCast_nonneg m) (show 0 ≤ n by omega)
      exact ⟨by omega, by omega, ⟨m, by rw [Int.mul_comm n]; omega⟩⟩
    · omega
  · rintro ⟨g0, g1, k, e⟩
    have k0 : 0 ≤ k := by
      rcases Int.lt_or_le k 0 with z | z
      · have : n * k ≤ n * (-1) := Int.mul_le_mul_of_nonneg_left (by omega) (by omega)
        omega
      · exact z
    have k1 : 0 ≤ n * k := Int.mul_nonneg (by omega) k0
    rw [if_pos (by omega)]
    have k2 : k ≤ (span + 1 - r - 1) / n := (Int.le_ediv_iff_mul_le (by omega)).mpr (by rw [Int.mul_comm]; omega)
    refine ⟨k.toNat, by omega, ?_⟩
    rw [Int.toNat_of_nonneg k0, Int.mul_comm]
    omega
theorem dvd_mod_iff {x n g : Int} : n ∣ g - x % n ↔ n ∣ g - x := by
  have e := Int.emod_add_mul_ediv x n
  constructor
  · rintro ⟨k, h⟩
    exact ⟨k - x / n, by rw [Int.mul_sub]; omega⟩
  · rintro ⟨k, h⟩
    exact ⟨k + x / n, by rw [Int.mul_add]; omega⟩
theorem srtD_setOf (ns : List Int) : srtD (setOf ns) = srtD ns := srtD_uniq (srtD_lt _) fun k => srtD_mem.trans setOf_mem
theorem due_eq {p o lo hi span : Int} {ns : List Int} (h1 : 1 ≤ lo) (hm : ∀ g, g ∈ ns ↔ ∃ n, n ∈ (lens lo hi).filter (fun n => decide (p < n ∧ 0 ≤ o ∧ o < n)) ∧ 0 ≤ g ∧ g ≤ span ∧ n ∣ g - (o - p)) : srtD ns = dueG p o lo hi span := by
  symm
  refine srtD_uniq ?_ fun g => ?_
  · unfold dueG
    exact List.pairwise_map.mpr (((List.pairwise_lt_range (n := (span + 1).toNat)).filter _).imp fun {x y} h => by show (x : Int) < (y : Int); omega)
  · rw [hm]
    unfold dueG
    rw [List.mem_map]
    constructor
    · rintro ⟨d, hd, rfl⟩
      obtain ⟨a, b⟩ := List.mem_filter.mp hd
      have a := List.mem_range.mp a
      obtain ⟨n, hn, e⟩ := (gap_mem h1).mp (of_decide_eq_true b)
      exact ⟨n, hn, by omega, by omega, e⟩
    · rintro ⟨n, hn, g0, g1, e⟩
      refine ⟨g.toNat, List.mem_filter.mpr ⟨List.mem_range.mpr (by omega), decide_eq_true ?_⟩, by omega⟩
      rw [Int.toNat_of_nonneg g0]
      exact (gap_mem h1).mpr ⟨n, hn, e⟩
section
variable {γ1 : VL.Env} {vs : List Nat} {β : Type}
theorem lcj_stpF {lo c : Int} {n : Nat} {n0 : Nat} {step : T → VL.Env → (VL.Env → Prop) → Prop} {done : VL.Env → Prop} (F : VL.Env → β → VL.Env) (P : Nat → β → Prop) (h0 : NLs n0 vs (F γ1) (P 0) γ1) (hs : ∀ i s, i < n → P i s → step (.int (lo + (i : Nat) * c)) ((F γ1 s).wipe vs) (NLs n0 vs (F γ1) (P (i + 1)))) (hd : ∀ s, P n s → done (F γ1 s)) : LcJ (.fix (rngC lo c n)) n0 γ1 vs step done := lcj_stp (F γ1) P h0 hs hd
end
end
end Toy
set_option Elab.async false
set_option linter.all false
set_option maxRecDepth 100000
set_option maxHeartbeats 4000000
set_option synthInstance.maxSize 1000000
set_option synthInstance.maxHeartbeats 4000000
namespace Toy
open PySem L2 XR VL
local macro_rules | `(tactic| walk_at "ne") => `(tactic| first | assumption | (apply Ne.symm; assumption) | exact XR.ne_fresh (by assumption) (by walk_at "hp") | exact Ne.symm (XR.ne_fresh (by assumption) (by walk_at "hp")))
local macro_rules | `(tactic| walk_at "hp") => `(tactic| first | assumption | exact upd_same | (refine Eq.trans (upd_ne ?_) ?_; (walk_at "ne"); walk_at "hp"))
local macro_rules | `(tactic| walk_at "sq") => `(tactic| first | walk_at "hp" | exact SqL.of (by walk_at "hp") | exact SqT.of (by walk_at "hp") | exact XR.SqT.same (by assumption) (by assumption) | exact XR.SqL.same (by assumption) (by assumption))
local macro_rules | `(tactic| walk_at "br") => `(tactic| (refine ite2 ?_ ?_ <;> intro hbr <;> (try simp only [decide_eq_true_eq, decide_eq_false_iff_not, V.int.injEq, V.bl.injEq, V.str.injEq, Bool.not_eq_true, Bool.not_eq_eq_eq_not, Bool.not_true, Bool.not_false, ne_eq, Int.reduceToNat, Int.reducePow, Int.reduceMul, Int.reduceAdd, Int.reduceSub, reduceCtorEq, not_true_eq_false, not_false_eq_true, Int.not_lt, Int.not_le] at hbr)))
local macro_rules | `(tactic| walk_at "side") => `(tactic| first
  | exact ⟨by decide, by decide, by decide⟩
  | exact .inl ⟨by decide, by decide⟩
  | exact .inr ⟨by decide, by decide⟩
  | exact XR.divw (by first | decide | omega) (by first | decide | omega)
  | (show (_ : Int) = _; first | rfl | omega)
  | (show (0 : Int) < _; first | decide | assumption | omega)
  | exact .inl ⟨by omega, by omega⟩
  | exact .inr ⟨by omega, by omega⟩
  | exact .inl (XR.cmul_mod (by decide))
  | exact XR.log_lt (by omega) (by omega)
  | decide
  | (rw [sizeLine_eq]; simp; done)
  | (show 2 ≤ sizeLine; decide) | (show 3 ≤ sizeLine; decide) | (show 4 ≤ sizeLine; decide) | (show 5 ≤ sizeLine; decide) | (show 6 ≤ sizeLine; decide) | (show 7 ≤ sizeLine; decide) | (show 1 ≤ sizeLine; decide) | (show 8 ≤ sizeLine; decide) | (show 0 ≤ sizeLine; decide))
local macro_rules | `(tactic| walk_at "rd1") => `(tactic| first
  | refine ⟨_, rfl, ?_⟩
  | refine ⟨_, _, rfl, rfl, ?_⟩
  | refine ⟨_, _, _, _, rfl, rfl, (by walk_at "sq"), rfl, ?_⟩
  | refine ⟨_, _, _, _, rfl, rfl, (by walk_at "hp"), (by walk_at "hp"), (by walk_at "side"), ?_⟩
  | refine ⟨_, _, rfl, .inl (by walk_at "sq"), ?_⟩
  | refine ⟨_, _, rfl, .inl ⟨(by walk_at "sq"), ?_⟩⟩
  | refine ⟨_, _, rfl, .inr (by walk_at "sq"), ?_⟩
  | refine ⟨_, _, _, _, _, rfl, (by walk_at "hp"), (by walk_at "cls"), (by walk_at "noat"), rfl, ?_⟩
  | refine ⟨_, _, _, _, rfl, rfl, (by walk_at "sq"), (by first | assumption | exact XR.at0 | exact XR.at1), ?_⟩
  | refine ⟨rfl, ?_⟩
  | refine And.intro (by walk_at "side") ?_
  | refine .inl ⟨_, rfl, ?_⟩
  | refine And.intro ⟨_, (by walk_at "sq")⟩ ?_
  | refine ⟨_, _, rfl, (by walk_at "sq"), ?_⟩
  | refine ⟨_, _, rfl, ?_⟩
  | refine .inr ⟨_, rfl, (by walk_at "side"), ?_⟩
  | refine ⟨_, _, _, rfl, (by walk_at "hp"), ?_⟩
  | refine iteT ?_
  | refine iteF ?_)
local macro_rules | `(tactic| walk_at "rd") => `(tactic| repeat (walk_at "rd1"))
local macro_rules | `(tactic| walk_at "nn") => `(tactic| (simp only [Int.reduceToNat, Int.reducePow, Int.reduceMul, Int.reduceAdd, Int.reduceSub, Int.reduceNeg]))
local macro_rules | `(tactic| walk_at "dr") => `(tactic| repeat (first | refine And.intro (by first | assumption | walk_at "pre") ?_ | refine And.intro (by first | decide | omega) ?_))
local macro_rules | `(tactic| walk_at "vi") => `(tactic| ((try dsimp only [L2.cxOf, L2.Cx.nox, L2.Cx.wish, L2.Cx.blk, L2.Cx.suite, L2.Cx.tr, L2H.cxH, List.map_cons, List.map_nil]); (try simp only [List.map_cons, List.map_nil]); infer_instance))
local macro_rules | `(tactic| walk_at "w") => `(tactic| conv => whnf)
local macro_rules | `(tactic| walk_at "sz") => `(tactic| first
  | (show _ ≤ sizeLine; rw [sizeLine_eq]; first | decide | omega | (simp; done) | (simp; omega))
  | (show _ < sizeLine; rw [sizeLine_eq]; first | decide | omega | (simp; done) | (simp; omega)))
local macro_rules | `(tactic| walk_at "ok") => `(tactic| first
  | exact encInt.list.ok (by decide) _ | exact encInt.tupl.ok (by decide) _ | exact encStr.list.ok (by decide) _ | exact encStr.tupl.ok (by decide) _
  | exact (encInt.pair encInt).list.ok (by decide) _ | exact (encInt.pair encInt).ok (by decide) _ | exact (encStr.pair encStr).list.ok (by decide) _ | exact (encStr.pair encStr).ok (by decide) _
  | exact encInt.tupl.list.ok (by decide) _)
local macro_rules | `(tactic| walk_at "vs") => `(tactic| first
  | exact trivial
  | assumption
  | exact rfl
  | exact ⟨rfl, rfl⟩
  | walk_at "ok"
  | walk_at "sz"
  | exact .inl (.inr ⟨by decide, by decide⟩)
  | exact .inl (.inl ⟨by first | decide | omega, by first | decide | omega⟩)
  | exact .inl (.inr ⟨by first | decide | omega, by first | decide | omega⟩)
  | exact XR.divw (by first | decide | omega) (by first | decide | omega)
  | (show (0 : Int) < _; first | decide | omega)
  | exact ⟨by first | decide | omega, by first | decide | omega⟩
  | exact ⟨by first | decide | omega, by first | decide | omega, by first | decide | omega⟩
  | exact ⟨by walk_at "sz", by omega, by omega⟩
  | exact ⟨by walk_at "cls", by walk_at "noat"⟩
  | exact ⟨by walk_at "xf", by walk_at "xe"⟩
  | walk_at "exm"
  | decide
  | exact XR.log_lt (by omega) (by omega)
  | ((try dsimp only); (try simp only [List.length_map, List.length_append, List.length_cons, List.length_nil, List.length_eraseIdx]); omega))
local macro_rules | `(tactic| walk_at "v") => `(tactic| (walk_at "w"; (repeat ((first | refine And.intro (by walk_at "vs") ?_ | refine isS_i (by assumption) ?_); walk_at "w")); (try walk_at "n")))
local macro_rules | `(tactic| walk_at "isi") => `(tactic| first | refine ⟨_, VL.IsI.int_int _, ?_⟩ | refine ⟨_, VL.IsI.int_bool _, ?_⟩ | refine ⟨_, VL.IsI.int_str _, ?_⟩ | refine ⟨_, VL.IsI.int_list _, ?_⟩ | refine ⟨_, VL.IsI.int_tuple _, ?_⟩ | refine ⟨_, VL.IsI.bl_int _, ?_⟩ | refine ⟨_, VL.IsI.bl_bool _, ?_⟩ | refine ⟨_, VL.IsI.bl_str _, ?_⟩ | refine ⟨_, VL.IsI.str_str _, ?_⟩ | refine ⟨_, VL.IsI.str_int _, ?_⟩ | refine ⟨_, VL.IsI.str_bool _, ?_⟩ | refine ⟨_, VL.IsI.lst_list _, ?_⟩ | refine ⟨_, VL.IsI.lst_tuple _, ?_⟩ | refine ⟨_, VL.IsI.tup_list _, ?_⟩ | refine ⟨_, VL.IsI.tup_tuple _, ?_⟩ | refine ⟨_, VL.IsI.tup_str _, ?_⟩ | refine ⟨_, VL.IsI.tup_int _, ?_⟩ | refine ⟨_, VL.IsI.dk_dict _, ?_⟩ | refine ⟨_, VL.IsI.non_int, ?_⟩ | refine ⟨_, VL.IsI.non_tuple, ?_⟩ | refine ⟨_, VL.IsI.non_list, ?_⟩ | refine ⟨_, VL.IsI.non_str, ?_⟩)
local macro_rules | `(tactic| walk_at "V") => `(tactic| (walk_at "w"; (repeat ((first | refine And.intro (by walk_at "vs") ?_ | refine isS_i (by assumption) ?_ | refine Or.inr ?_ | walk_at "isi" | walk_at "eis" | refine ⟨_, rfl, ?_⟩); walk_at "w")); (try walk_at "n")))
set_option hygiene false
local macro_rules | `(tactic| walk_at "vb") => `(tactic| (refine br_i ?_ ?_ <;> intro hbr <;> (try simp only [nb, decide_eq_true_eq, decide_eq_false_iff_not, Bool.not_eq_true, Bool.not_eq_eq_eq_not, Bool.not_true, Bool.not_false, ne_eq, Bool.and_eq_true, Bool.or_eq_true, Bool.and_eq_false_imp, Decidable.not_not, Int.not_lt, Int.not_le, bne_iff_ne, Bool.not_eq_false, Bool.or_eq_false_iff, reduceCtorEq, not_true_eq_false, not_false_eq_true] at hbr)))
set_option hygiene true
local macro_rules | `(tactic| walk_at "le") => `(tactic| exact VL.Le.to rfl (Nat.le_of_ble_eq_true rfl))
local macro_rules | `(tactic| walk_at "d") => `(tactic| dsimp only at *)
local macro_rules | `(tactic| walk_at "n") => `(tactic| dsimp only [VL.env0, VL.slots0, VL.mem0, VL.nones, VL.falses, VL.put_mk, VL.push_mk, VL.set_mk, VL.unset_mk, VL.wipe_nl, VL.wipe_cs, VL.el_mk, VL.ed_mk, VL.es_mk, VL.frs_nl, VL.frs_cs, VL.fr_mk, VL.frX, VL.frSl, VL.nth, Nat.reduceAdd, Nat.reduceSub, Nat.reduceMul, Nat.reduceBEq, List.set, List.length_cons, List.length_nil, List.cons_append, List.nil_append, VL.qI, VL.qT, VL.qR])
local macro_rules | `(tactic| walk_at "cls") => `(tactic| first | exact T_cl_RemainderTable (by assumption))
local macro_rules | `(tactic| walk_at "noat") => `(tactic| first | exact Txt.no_RemainderTable_rows (by assumption))
local macro_rules | `(tactic| walk_at "eis") => `(tactic| first | fail)
local macro_rules | `(tactic| walk_at "exm") => `(tactic| first | fail)
local macro_rules | `(tactic| walk_at "xf") => `(tactic| first | fail)
local macro_rules | `(tactic| walk_at "xe") => `(tactic| first | fail)
local macro_rules | `(tactic| walk_at "isi") => `(tactic| first | refine ⟨_, VL.IsI.mk _ _ (.obj (fun _ _ _ _ e => T_ty_RemainderTable (by assumption) e)) (.cls _) (Txt.zo_RemainderTable_RemainderTable (by assumption)), ?_⟩ | refine ⟨_, VL.IsI.mk _ _ (.obj (fun _ _ _ _ e => T_ty_RemainderTable (by assumption) e)) (.ty _) (Txt.zo_RemainderTable_bool (by assumption)), ?_⟩ | refine ⟨_, VL.IsI.mk _ _ (.obj (fun _ _ _ _ e => T_ty_RemainderTable (by assumption) e)) (.ty _) (Txt.zo_RemainderTable_int (by assumption)), ?_⟩ | refine ⟨_, VL.IsI.mk _ _ (.obj (fun _ _ _ _ e => T_ty_RemainderTable (by assumption) e)) (.ty _) (Txt.zo_RemainderTable_list (by assumption)), ?_⟩ | refine ⟨_, VL.IsI.mk _ _ (.obj (fun _ _ _ _ e => T_ty_RemainderTable (by assumption) e)) (.ty _) (Txt.zo_RemainderTable_tuple (by assumption)), ?_⟩)
section
variable {P : Program} {w : World} {K : PySem.W.Frag} {mg : Str → Option Value} {base : Heap} {D : Ad}
/-! ### the program -/
def tSqN (z : Bool) (ts : List T) : T := if z then .lst ts else .tup ts
def tTab (D : Ad) (rs : List Rw) : T := .obj D.c_RemainderTable [("rows", .tup (rs.map tR))]
def spPlace : VSpF := fun vs Q => ∃ n s d : Int, vs = [.tup [.int n, .int s], .int d] ∧ 1 ≤ n ∧ n < 2 ^ 62 ∧ Q (.int ((d + s) % n))
theorem sc_place_on : FnScope ["cycle", "day", "length", "shift"] ["cycle", "day"] (defScope s_place_on) := ⟨rfl, rfl, rfl, by decide +kernel, rfl, by decide +kernel, by decide +kernel⟩
theorem okv_place_on (T : Txt K mg D) : FnOk P w K mg base CX0 1 D.a_place_on D.d_place_on ["cycle", "day"] (vsp K (VL.falses 2) (VL.ofF spPlace)) := by
  refine VL.okV T.F_place_on sc_place_on rfl (by decide) (fun cdv A outer s H E hr => have hu := VL.huR hr; ⟨_, (pss_cons (ps_asg (pv 0) (pg_tup (by rfl) (pgs_cons (pg_name (i := 2) sc_place_on.nd rfl (Or.inl rfl)) (pgs_cons (pg_name (i := 3) sc_place_on.nd rfl (Or.inl rfl)) pgs_nil))))
      (pss_one (ps_ret (pe_op op_mod (pe_op VL.op_addU (pv 1) (pv 3)) (pv 2))))), ?_⟩)
  apply VL.wvI
  · intro B; walk_at "vi"
  · intro ts Qv Xv h
    obtain ⟨Q0, ⟨n, s, d, rfl, h1, h2, k⟩, kq⟩ := h
    walk_at "V"
    exact kq _ rfl k
theorem ok_place_on (T : Txt K mg D) : FnOk P w K mg base CX0 1 D.a_place_on D.d_place_on ["cycle", "day"] (vspF K spPlace) := VL.okF (okv_place_on T) (fun ts Q h => by obtain ⟨n, s, d, rfl, _⟩ := h; rfl)
def spAT (n : Nat) : VSp := fun vs Q _ => ∃ t, vs = [t] ∧ AT n t ∧ Q (.val (toTup t)) []
theorem zero_as_tuples : ∀ ts Q X, ¬ spAT 0 ts Q X := by
  rintro ts Q X ⟨t, _, h, _⟩
  exact h
theorem sc_as_tuples : FnScope ["value", "part"] ["value"] (defScope s_as_tuples) := ⟨rfl, rfl, rfl, by decide +kernel, rfl, by decide +kernel, by decide +kernel⟩
theorem ok_as_tuples_0 (T : Txt K mg D) : FnOk P w K mg base CX0 1 D.a_as_tuples D.d_as_tuples ["value"] (vsp K [false] (spAT 0)) := VL.okNo zero_as_tuples
theorem ok_as_tuples_1 (T : Txt K mg D) : FnOk P w K mg base CX0 3 D.a_as_tuples D.d_as_tuples ["value"] (vsp K [false] (spAT 1)) := by
  have G_as_tuples := ok_as_tuples_0 (P := P) (w := w) (base := base) T
  refine VL.okV T.F_as_tuples sc_as_tuples rfl (by decide) (fun cdv A outer s H E hr => have hu := VL.huR hr; ⟨_, (pss_cons (ps_if (pt_val (pe_callB call_isiT (by rfl) T.n_isinstance (by decide +kernel) (pa_cons (pv 0) (pa_cons (pe_tup (pa_cons (pe_bltn (v := .ty "list") (u := .type "list") (by rfl) T.n_list (by decide +kernel) rfl) (pa_cons (pe_bltn (v := .ty "tuple") (u := .type "tuple") (by rfl) T.n_tuple (by decide +kernel) rfl) pa_nil))) pa_nil))))
      (pss_one (ps_ret (pe_callTy VL.call_tupU (by rfl) T.n_tuple (by decide +kernel) (pa_cons (pe_lc (own := [("part", 1)]) (g := (gName 1)) (tt := tYes) (by rfl) sc_as_tuples.nd (VL.pi_dyn (pv 0)) (blkOk_by (own := [("part", 1)]) (N := ["value", "part"]) (sc := defScope s_as_tuples) (by decide +kernel)) (fun _ _ _ _ _ => (pg_name (i := 1) sc_as_tuples.nd rfl (Or.inl rfl))) (fun _ _ _ _ _ => pts_nil) (fun _ _ _ _ _ => (pe_call G_as_tuples (hr.mono (by decide)) (by rfl) T.g_as_tuples T.F_as_tuples.kp T.b_as_tuples .nil pass0 (pa_cons (pv 1) pa_nil)))) pa_nil))))
      pss_nil)
      (pss_one (ps_ret (pv 0)))), ?_⟩)
  apply VL.wvI
  · intro B; walk_at "vi"
  · intro ts Qv Xv h
    obtain ⟨t, rfl, ha, k⟩ := h
    cases t with
    | int x =>
      walk_at "V"
      refine ⟨_, .no (.int_list _) (.no (.int_tuple _) (.nil _ (.int _))), ?_⟩
      walk_at "V"
      exact k
    | lst ts =>
      obtain ⟨hl, ha⟩ := ha
      walk_at "V"
      refine ⟨_, .yes (.lst_list _) ⟨_, .cons (.ty _) .nil⟩, ?_⟩
      walk_at "V"
      refine lc_ts (fun i out => out = (ts.take i).map toTup) (by rw [List.take_zero]; rfl) ?_ ?_
      · rintro i t _ ht rfl
        have il := (List.getElem?_eq_some_iff.mp ht).1
        have at_ : AT 0 t := ha t (List.mem_of_getElem? ht)
        have ol : ((ts.take i).map toTup).length < 100000 := by rw [List.length_map, List.length_take]; omega
        walk_at "V"
        exact NL.mk _ (by walk_at "le") (by rw [XR.take_one ht, List.map_append]; rfl)
      · rintro _ rfl
        rw [List.take_length]
        walk_at "V"
        rw [toTup_lst] at k
        exact k
    | tup ts =>
      obtain ⟨hl, ha⟩ := ha
      walk_at "V"
      refine ⟨_, .no (.tup_list _) (.yes (.tup_tuple _) ⟨_, .nil⟩), ?_⟩
      walk_at "V"
      refine lc_ts (fun i out => out = (ts.take i).map toTup) (by rw [List.take_zero]; rfl) ?_ ?_
      · rintro i t _ ht rfl
        have il := (List.getElem?_eq_some_iff.mp ht).1
        have at_ : AT 0 t := ha t (List.mem_of_getElem? ht)
        have ol : ((ts.take i).map toTup).length < 100000 := by rw [List.length_map, List.length_take]; omega
        walk_at "V"
        exact NL.mk _ (by walk_at "le") (by rw [XR.take_one ht, List.map_append]; rfl)
      · rintro _ rfl
        rw [List.take_length]
        walk_at "V"
        rw [toTup_tup] at k
        exact k
    | _ => exact ha.elim
theorem ok_as_tuples_2 (T : Txt K mg D) : FnOk P w K mg base CX0 5 D.a_as_tuples D.d_as_tuples ["value"] (vsp K [false] (spAT 2)) := by
  have G_as_tuples := ok_as_tuples_1 (P := P) (w := w) (base := base) T
  refine VL.okV T.F_as_tuples sc_as_tuples rfl (by decide) (fun cdv A outer s H E hr => have hu := VL.huR hr; ⟨_, (pss_cons (ps_if (pt_val (pe_callB call_isiT (by rfl) T.n_isinstance (by decide +kernel) (pa_cons (pv 0) (pa_cons (pe_tup (pa_cons (pe_bltn (v := .ty "list") (u := .type "list") (by rfl) T.n_list (by decide +kernel) rfl) (pa_cons (pe_bltn (v := .ty "tuple") (u := .type "tuple") (by rfl) T.n_tuple (by decide +kernel) rfl) pa_nil))) pa_nil))))
      (pss_one (ps_ret (pe_callTy VL.call_tupU (by rfl) T.n_tuple (by decide +kernel) (pa_cons (pe_lc (own := [("part", 1)]) (g := (gName 1)) (tt := tYes) (by rfl) sc_as_tuples.nd (VL.pi_dyn (pv 0)) (blkOk_by (own := [("part", 1)]) (N := ["value", "part"]) (sc := defScope s_as_tuples) (by decide +kernel)) (fun _ _ _ _ _ => (pg_name (i := 1) sc_as_tuples.nd rfl (Or.inl rfl))) (fun _ _ _ _ _ => pts_nil) (fun _ _ _ _ _ => (pe_call G_as_tuples (hr.mono (by decide)) (by rfl) T.g_as_tuples T.F_as_tuples.kp T.b_as_tuples .nil pass0 (pa_cons (pv 1) pa_nil)))) pa_nil))))
      pss_nil)
      (pss_one (ps_ret (pv 0)))), ?_⟩)
  apply VL.wvI
  · intro B; walk_at "vi"
  · intro ts Qv Xv h
    obtain ⟨t, rfl, ha, k⟩ := h
    cases t with
    | int x =>
      walk_at "V"
      refine ⟨_, .no (.int_list _) (.no (.int_tuple _) (.nil _ (.int _))), ?_⟩
      walk_at "V"
      exact k
    | lst ts =>
      obtain ⟨hl, ha⟩ := ha
      walk_at "V"
      refine ⟨_, .yes (.lst_list _) ⟨_, .cons (.ty _) .nil⟩, ?_⟩
      walk_at "V"
      refine lc_ts (fun i out => out = (ts.take i).map toTup) (by rw [List.take_zero]; rfl) ?_ ?_
      · rintro i t _ ht rfl
        have il := (List.getElem?_eq_some_iff.mp ht).1
        have at_ : AT 1 t := ha t (List.mem_of_getElem? ht)
        have ol : ((ts.take i).map toTup).length < 100000 := by rw [List.length_map, List.length_take]; omega
        walk_at "V"
        exact NL.mk _ (by walk_at "le") (by rw [XR.take_one ht, List.map_append]; rfl)
      · rintro _ rfl
        rw [List.take_length]
        walk_at "V"
        rw [toTup_lst] at k
        exact k
    | tup ts =>
      obtain ⟨hl, ha⟩ := ha
      walk_at "V"
      refine ⟨_, .no (.tup_list _) (.yes (.tup_tuple _) ⟨_, .nil⟩), ?_⟩
      walk_at "V"
      refine lc_ts (fun i out => out = (ts.take i).map toTup) (by rw [List.take_zero]; rfl) ?_ ?_
      · rintro i t _ ht rfl
        have il := (List.getElem?_eq_some_iff.mp ht).1
        have at_ : AT 1 t := ha t (List.mem_of_getElem? ht)
        have ol : ((ts.take i).map toTup).length < 100000 := by rw [List.length_map, List.length_take]; omega
        walk_at "V"
        exact NL.mk _ (by walk_at "le") (by rw [XR.take_one ht, List.map_append]; rfl)
      · rintro _ rfl
        rw [List.take_length]
        walk_at "V"
        rw [toTup_tup] at k
        exact k
    | _ => exact ha.elim
theorem ok_as_tuples_3 (T : Txt K mg D) : FnOk P w K mg base CX0 7 D.a_as_tuples D.d_as_tuples ["value"] (vsp K [false] (spAT 3)) := by
  have G_as_tuples := ok_as_tuples_2 (P := P) (w := w) (base := base) T
  refine VL.okV T.F_as_tuples sc_as_tuples rfl (by decide) (fun cdv A outer s H E hr => have hu := VL.huR hr; ⟨_, (pss_cons (ps_if (pt_val (pe_callB call_isiT (by rfl) T.n_isinstance (by decide +kernel) (pa_cons (pv 0) (pa_cons (pe_tup (pa_cons (pe_bltn (v := .ty "list") (u := .type "list") (by rfl) T.n_list (by decide +kernel) rfl) (pa_cons (pe_bltn (v := .ty "tuple") (u := .type "tuple") (by rfl) T.n_tuple (by decide +kernel) rfl) pa_nil))) pa_nil))))
      (pss_one (ps_ret (pe_callTy VL.call_tupU (by rfl) T.n_tuple (by decide +kernel) (pa_cons (pe_lc (own := [("part", 1)]) (g := (gName 1)) (tt := tYes) (by rfl) sc_as_tuples.nd (VL.pi_dyn (pv 0)) (blkOk_by (own := [("part", 1)]) (N := ["value", "part"]) (sc := defScope s_as_tuples) (by decide +kernel)) (fun _ _ _ _ _ => (pg_name (i := 1) sc_as_tuples.nd rfl (Or.inl rfl))) (fun _ _ _ _ _ => pts_nil) (fun _ _ _ _ _ => (pe_call G_as_tuples (hr.mono (by decide)) (by rfl) T.g_as_tuples T.F_as_tuples.kp T.b_as_tuples .nil pass0 (pa_cons (pv 1) pa_nil)))) pa_nil))))
      pss_nil)
      (pss_one (ps_ret (pv 0)))), ?_⟩)
  apply VL.wvI
  · intro B; walk_at "vi"
  · intro ts Qv Xv h
    obtain ⟨t, rfl, ha, k⟩ := h
    cases t with
    | int x =>
      walk_at "V"
      refine ⟨_, .no (.int_list _) (.no (.int_tuple _) (.nil _ (.int _))), ?_⟩
      walk_at "V"
      exact k
    | lst ts =>
      obtain ⟨hl, ha⟩ := ha
      walk_at "V"
      refine ⟨_, .yes (.lst_list _) ⟨_, .cons (.ty _) .nil⟩, ?_⟩
      walk_at "V"
      refine lc_ts (fun i out => out = (ts.take i).map toTup) (by rw [List.take_zero]; rfl) ?_ ?_
      · rintro i t _ ht rfl
        have il := (List.getElem?_eq_some_iff.mp ht).1
        have at_ : AT 2 t := ha t (List.mem_of_getElem? ht)
        have ol : ((ts.take i).map toTup).length < 100000 := by rw [List.length_map, List.length_take]; omega
        walk_at "V"
        exact NL.mk _ (by walk_at "le") (by rw [XR.take_one ht, List.map_append]; rfl)
      · rintro _ rfl
        rw [List.take_length]
        walk_at "V"
        rw [toTup_lst] at k
        exact k
    | tup ts =>
      obtain ⟨hl, ha⟩ := ha
      walk_at "V"
      refine ⟨_, .no (.tup_list _) (.yes (.tup_tuple _) ⟨_, .nil⟩), ?_⟩
      walk_at "V"
      refine lc_ts (fun i out => out = (ts.take i).map toTup) (by rw [List.take_zero]; rfl) ?_ ?_
      · rintro i t _ ht rfl
        have il := (List.getElem?_eq_some_iff.mp ht).1
        have at_ : AT 2 t := ha t (List.mem_of_getElem? ht)
        have ol : ((ts.take i).map toTup).length < 100000 := by rw [List.length_map, List.length_take]; omega
        walk_at "V"
        exact NL.mk _ (by walk_at "le") (by rw [XR.take_one ht, List.map_append]; rfl)
      · rintro _ rfl
        rw [List.take_length]
        walk_at "V"
        rw [toTup_tup] at k
        exact k
    | _ => exact ha.elim
theorem ok_as_tuples (T : Txt K mg D) : FnOk P w K mg base CX0 7 D.a_as_tuples D.d_as_tuples ["value"] (vsp K [false] (spAT 3)) := ok_as_tuples_3 T
theorem tR_at (r : Rw) : AT 2 (tR r) := ⟨by show 3 < 100000; decide, fun t ht => by
  rcases List.mem_cons.mp ht with rfl | ht
  · trivial
  rcases List.mem_cons.mp ht with rfl | ht
  · trivial
  rcases List.mem_cons.mp ht with rfl | ht
  · trivial
  · cases ht⟩
theorem tR_tup (r : Rw) : toTup (tR r) = tR r := rfl
theorem tRs_tup (rs : List Rw) : (rs.map tR).map toTup = rs.map tR := by
  rw [List.map_map]
  exact List.map_congr_left fun r _ => rfl
theorem tRs_at {rs : List Rw} (h : rs.length < 1000) : AT 3 (.lst (rs.map tR)) ∧ AT 3 (.tup (rs.map tR)) := by
  have a : (rs.map tR).length < 100000 ∧ ∀ t ∈ rs.map tR, AT 2 t := ⟨by rw [List.length_map]; omega, fun t ht => by
    obtain ⟨r, _, rfl⟩ := List.mem_map.mp ht
    exact tR_at r⟩
  exact ⟨a, a⟩
/-- rows in an open list -/
def spAT2 : VSp := fun vs Q _ => ∃ rs : List Rw, vs = [.lst (rs.map tR)] ∧ rs.length < 1000 ∧ Q (.val (.tup (rs.map tR))) [.lst (rs.map tR)]
theorem ok2_as_tuples (T : Txt K mg D) : FnOk P w K mg base CX0 9 D.a_as_tuples D.d_as_tuples ["value"] (vsp K [true] spAT2) := by
  have G_as_tuples := ok_as_tuples (P := P) (w := w) (base := base) T
  refine VL.okV T.F_as_tuples sc_as_tuples rfl (by decide) (fun cdv A outer s H E hr => have hu := VL.huR hr; ⟨_, (pss_cons (ps_if (pt_val (pe_callB call_isiT (by rfl) T.n_isinstance (by decide +kernel) (pa_cons (pv 0) (pa_cons (pe_tup (pa_cons (pe_bltn (v := .ty "list") (u := .type "list") (by rfl) T.n_list (by decide +kernel) rfl) (pa_cons (pe_bltn (v := .ty "tuple") (u := .type "tuple") (by rfl) T.n_tuple (by decide +kernel) rfl) pa_nil))) pa_nil))))
      (pss_one (ps_ret (pe_callTy VL.call_tupU (by rfl) T.n_tuple (by decide +kernel) (pa_cons (pe_lc (own := [("part", 1)]) (g := (gName 1)) (tt := tYes) (by rfl) sc_as_tuples.nd (VL.pi_dynL (pv 0)) (blkOk_by (own := [("part", 1)]) (N := ["value", "part"]) (sc := defScope s_as_tuples) (by decide +kernel)) (fun _ _ _ _ _ => (pg_name (i := 1) sc_as_tuples.nd rfl (Or.inl rfl))) (fun _ _ _ _ _ => pts_nil) (fun _ _ _ _ _ => (pe_call G_as_tuples (hr.mono (by decide)) (by rfl) T.g_as_tuples T.F_as_tuples.kp T.b_as_tuples .nil pass0 (pa_cons (pv 1) pa_nil)))) pa_nil))))
      pss_nil)
      (pss_one (ps_ret (pv 0)))), ?_⟩)
  apply VL.wvI
  · intro B; walk_at "vi"
  · intro ts Qv Xv h
    obtain ⟨rs, rfl, hl, k⟩ := h
    walk_at "V"
    refine ⟨_, .yes (.lst_list _) ⟨_, .cons (.ty _) .nil⟩, ?_⟩
    walk_at "V"
    refine lc_mapL (fun _ => rfl) (xs := rs) (f := tR) tR (fun i x out hx hl2 => ?_) ?_
    · have at_ : AT 3 (tR x) := by
        have := tR_at x
        exact ⟨by show 3 < 100000; decide, fun t ht => by
          rcases List.mem_cons.mp ht with rfl | ht
          · trivial
          rcases List.mem_cons.mp ht with rfl | ht
          · trivial
          rcases List.mem_cons.mp ht with rfl | ht
          · trivial
          · cases ht⟩
      walk_at "V"
      exact NL.mk _ (by walk_at "le") rfl
    walk_at "V"
    exact k
def spTab (D : Ad) : VSp := fun vs Q _ => ∃ (z : Bool) (rs : List Rw), vs = [.obj D.c_RemainderTable [], tSqN z (rs.map tR)] ∧ rs.length < 1000 ∧ Q (.val .non) [tTab D rs]
theorem sc_RemainderTable_init : FnScope ["self", "rows"] ["self", "rows"] (defScope s_RemainderTable_init) := ⟨rfl, rfl, rfl, by decide +kernel, rfl, by decide +kernel, by decide +kernel⟩
theorem ok_RemainderTable_init (T : Txt K mg D) : FnOk P w K mg base CX0 11 D.a_RemainderTable_init D.d_RemainderTable_init ["self", "rows"] (vsp K [true, false] (spTab D)) := by
  have G_as_tuples := ok_as_tuples (P := P) (w := w) (base := base) T
  refine VL.okV T.F_RemainderTable_init sc_RemainderTable_init rfl (by decide) (fun cdv A outer s H E hr => have hu := VL.huR hr; ⟨_, (pss_one (ps_fld (pv 0) (pe_call G_as_tuples (hr.mono (by decide)) (by rfl) T.g_as_tuples T.F_as_tuples.kp T.b_as_tuples .nil pass0 (pa_cons (pv 1) pa_nil)) rfl)), ?_⟩)
  apply VL.wvI
  · intro B; walk_at "vi"
  · intro ts Qv Xv h
    obtain ⟨z, rs, rfl, hl, k⟩ := h
    have aa := tRs_at hl
    obtain ⟨a1, a2⟩ := aa
    have e1 : toTup (tSqN true (rs.map tR)) = .tup (rs.map tR) := by show toTup (.lst (rs.map tR)) = _; rw [toTup_lst, tRs_tup]
    have e2 : toTup (tSqN false (rs.map tR)) = .tup (rs.map tR) := by show toTup (.tup (rs.map tR)) = _; rw [toTup_tup, tRs_tup]
    cases z
    · walk_at "V"
      rw [e2]
      walk_at "V"
      exact k
    · walk_at "V"
      rw [e1]
      walk_at "V"
      exact k
def spTab2 (D : Ad) : VSp := fun vs Q _ => ∃ rs : List Rw, vs = [.obj D.c_RemainderTable [], .lst (rs.map tR)] ∧ rs.length < 1000 ∧ Q (.val .non) [tTab D rs, .lst (rs.map tR)]
theorem ok2_RemainderTable_init (T : Txt K mg D) : FnOk P w K mg base CX0 11 D.a_RemainderTable_init D.d_RemainderTable_init ["self", "rows"] (vsp K [true, true] (spTab2 D)) := by
  have G2_as_tuples := ok2_as_tuples (P := P) (w := w) (base := base) T
  refine VL.okV T.F_RemainderTable_init sc_RemainderTable_init rfl (by decide) (fun cdv A outer s H E hr => have hu := VL.huR hr; ⟨_, (pss_one (ps_fld (pv 0) (pe_call G2_as_tuples (hr.mono (by decide)) (by rfl) T.g_as_tuples T.F_as_tuples.kp T.b_as_tuples .nil pass0 (pa_cons (pv 1) pa_nil)) rfl)), ?_⟩)
  apply VL.wvI
  · intro B; walk_at "vi"
  · intro ts Qv Xv h
    obtain ⟨rs, rfl, hl, k⟩ := h
    walk_at "V"
    exact k
def spDem : VSpF := fun vs Q => ∃ (s : Sg) (n : Int), vs = [tP s, .int n] ∧ 1 ≤ n ∧ n < 2 ^ 62 ∧ Q (tO (dmd n s))
theorem sc__demand : FnScope ["sighting", "length", "day", "place"] ["sighting", "length"] (defScope s__demand) := ⟨rfl, rfl, rfl, by decide +kernel, rfl, by decide +kernel, by decide +kernel⟩
theorem okv__demand (T : Txt K mg D) : FnOk P w K mg base CX0 1 D.a__demand D.d__demand ["sighting", "length"] (vsp K (VL.falses 2) (VL.ofF spDem)) := by
  refine VL.okV T.F__demand sc__demand rfl (by decide) (fun cdv A outer s H E hr => have hu := VL.huR hr; ⟨_, (pss_cons (ps_asg (pv 0) (pg_tup (by rfl) (pgs_cons (pg_name (i := 2) sc__demand.nd rfl (Or.inl rfl)) (pgs_cons (pg_name (i := 3) sc__demand.nd rfl (Or.inl rfl)) pgs_nil))))
      (pss_cons (ps_if (pt_cmpR op_ge (pv 3) (pv 1) (nomark _))
      (pss_one (ps_ret pe_non))
      pss_nil)
      (pss_one (ps_ret (pe_op op_mod (pe_op op_sub (pv 3) (pv 2)) (pv 1)))))), ?_⟩)
  apply VL.wvI
  · intro B; walk_at "vi"
  · intro ts Qv Xv h
    obtain ⟨Q0, ⟨s, n, rfl, h1, h2, k⟩, kq⟩ := h
    walk_at "V"
    walk_at "vb"
    · have e : dmd n s = none := if_neg (by omega)
      rw [e] at k
      walk_at "V"
      exact kq _ rfl k
    · have e : dmd n s = some ((s.2 - s.1) % n) := if_pos (by omega)
      rw [e] at k
      walk_at "V"
      exact kq _ rfl k
theorem ok__demand (T : Txt K mg D) : FnOk P w K mg base CX0 1 D.a__demand D.d__demand ["sighting", "length"] (vspF K spDem) := VL.okF (okv__demand T) (fun ts Q h => by obtain ⟨s, n, rfl, _⟩ := h; rfl)
def spRow : VSp := fun vs Q _ => ∃ (ss : List Sg) (n : Int), vs = [tSs ss, .int n] ∧ 1 ≤ n ∧ n < 2 ^ 62 ∧ ss.length ≤ 6 ∧ Q (.val (.tup ((rowOf ss n).map tO))) []
theorem sc_remainder_row : FnScope ["sightings", "length", "sighting"] ["sightings", "length"] (defScope s_remainder_row) := ⟨rfl, rfl, rfl, by decide +kernel, rfl, by decide +kernel, by decide +kernel⟩
theorem ok_remainder_row (T : Txt K mg D) : FnOk P w K mg base CX0 3 D.a_remainder_row D.d_remainder_row ["sightings", "length"] (vsp K [false, false] spRow) := by
  have G__demand := ok__demand (P := P) (w := w) (base := base) T
  refine VL.okV T.F_remainder_row sc_remainder_row rfl (by decide) (fun cdv A outer s H E hr => have hu := VL.huR hr; ⟨_, (pss_one (ps_ret (pe_callTy VL.call_tupU (by rfl) T.n_tuple (by decide +kernel) (pa_cons (pe_lc (own := [("sighting", 2)]) (g := (gName 2)) (tt := tYes) (by rfl) sc_remainder_row.nd (VL.pi_dyn (pv 0)) (blkOk_by (own := [("sighting", 2)]) (N := ["sightings", "length", "sighting"]) (sc := defScope s_remainder_row) (by decide +kernel)) (fun _ _ _ _ _ => (pg_name (i := 2) sc_remainder_row.nd rfl (Or.inl rfl))) (fun _ _ _ _ _ => pts_nil) (fun _ _ _ _ _ => (pe_call G__demand (hr.mono (by decide)) (by rfl) T.g__demand T.F__demand.kp T.b__demand .nil pass0 (pa_cons (pv 2) (pa_cons (pv 1) pa_nil))))) pa_nil)))), ?_⟩)
  apply VL.wvI
  · intro B; walk_at "vi"
  · intro ts Qv Xv h
    obtain ⟨ss, n, rfl, h1, h2, hl, k⟩ := h
    walk_at "V"
    refine lc_map (fun s => tO (dmd n s)) (fun i s out hs ol => ?_) ?_
    · walk_at "V"
      refine ⟨s, n, rfl, h1, h2, ?_⟩
      walk_at "V"
      exact NL.mk _ (by walk_at "le") rfl
    walk_at "V"
    have e : (rowOf ss n).map tO = ss.map fun s => tO (dmd n s) := by unfold rowOf; rw [List.map_map]; rfl
    rw [e] at k
    exact k
theorem isNon_o (x : Option Int) : isNon (tO x) = x.isNone := by cases x <;> rfl
def spBy : VSp := fun vs Q _ => ∃ row : List (Option Int), vs = [.tup (row.map tO)] ∧ row.length ≤ 6 ∧ ∀ o, By row o → Q (.val (tBy o)) []
theorem sc__shut_by : FnScope ["row", "at", "shift"] ["row"] (defScope s__shut_by) := ⟨rfl, rfl, rfl, by decide +kernel, rfl, by decide +kernel, by decide +kernel⟩
theorem ok__shut_by (T : Txt K mg D) : FnOk P w K mg base CX0 1 D.a__shut_by D.d__shut_by ["row"] (vsp K [false] spBy) := by
  refine VL.okV T.F__shut_by sc__shut_by rfl (by decide) (fun cdv A outer s H E hr => have hu := VL.huR hr; ⟨_, (pss_cons (ps_for PassesOwn.never rfl (XR.pi_enumQ (by rfl) T.n_enumerate (pa_cons (pv 0) pa_nil)) (pg_tup (by rfl) (pgs_cons (pg_name (i := 1) sc__shut_by.nd rfl (Or.inl rfl)) (pgs_cons (pg_name (i := 2) sc__shut_by.nd rfl (Or.inl rfl)) pgs_nil)))
      (pss_one (ps_if (PW.pt (pw_and (pt_cmpR VL.op_notNU (pv 2) pe_non (nomark _)) (pw_and (pt_cmpR VL.op_notNU (pe_ix ix_seq (pv 0) pe_int (fun _ _ => rfl)) pe_non (nomark _)) (pw_and1 (pt_cmpR (op_neD (VL.hu64 hu)) (pv 2) (pe_ix ix_seq (pv 0) pe_int (fun _ _ => rfl)) (nomark _))))))
      (pss_one (ps_ret (pe_tup (pa_cons pe_int (pa_cons (pv 1) pa_nil)))))
      pss_nil)))
      (pss_cons (ps_for PassesOwn.never rfl (XR.pi_enumQ (by rfl) T.n_enumerate (pa_cons (pv 0) pa_nil)) (pg_tup (by rfl) (pgs_cons (pg_name (i := 1) sc__shut_by.nd rfl (Or.inl rfl)) (pgs_cons (pg_name (i := 2) sc__shut_by.nd rfl (Or.inl rfl)) pgs_nil)))
      (pss_one (ps_if (pt_cmpR VL.op_isNU (pv 2) pe_non (nomark _))
      (pss_one (ps_ret (pe_tup (pa_cons (pv 1) (pa_cons (pv 1) pa_nil)))))
      pss_nil)))
      (pss_one (ps_ret pe_non)))), ?_⟩)
  apply VL.wvI
  · intro B; walk_at "vi"
  · intro ts Qv Xv h
    obtain ⟨row, rfl, hl, k⟩ := h
    walk_at "V"
    refine for_enumF (β := Unit) (xs := row) (f := tO) (fun γ _ => (γ.unset 1).unset 2) (fun i _ => ∀ j < i, unl row j = false) (Nx.mk () (by walk_at "le") (fun j h => absurd h (Nat.not_lt_zero _))) ?_ ?_
    · rintro i x _ hx un
      have il := (List.getElem?_eq_some_iff.mp hx).1
      have e0 : row[0]? = some row[0] := List.getElem?_eq_getElem (by omega)
      have a0 := at_mapZ (f := tO) (xs := row) (i := 0) (by decide) e0
      have it : (0 : Int) + (i : Int) = (i : Int) := Int.zero_add _
      have nx : unl row i = false → ∀ j < i + 1, unl row j = false := fun h j hj => by
        rcases Nat.lt_or_ge j i with z | z
        · exact un j z
        · rw [show j = i by omega]; exact h
      generalize row[0] = r0 at e0 a0
      cases x with
      | none =>
        walk_at "V"
        exact Nx.mk () (by walk_at "le") (nx (by unfold unl; rw [hx]; split <;> first | rfl | (rename_i h; cases h)))
      | some x =>
        cases r0 with
        | none =>
          walk_at "V"
          exact Nx.mk () (by walk_at "le") (nx (by unfold unl; rw [e0]))
        | some y =>
          walk_at "V"
          by_cases e : x = y
          · rw [decide_eq_true e]
            walk_at "V"
            exact Nx.mk () (by walk_at "le") (nx (by unfold unl; rw [e0, hx]; exact decide_eq_false fun z => z e))
          · rw [decide_eq_false e]
            walk_at "V"
            rw [it]
            exact k (some (0, i)) (.inl ⟨rfl, by unfold unl; rw [e0, hx]; exact decide_eq_true e, un⟩)
    rintro _ un
    have un : ∀ j, unl row j = false := fun j => by
      rcases Nat.lt_or_ge j row.length with z | z
      · exact un j z
      · unfold unl
        rw [List.getElem?_eq_none z]
        split <;> first | rfl | (rename_i h; cases h)
    walk_at "V"
    refine for_enumF (β := Unit) (xs := row) (f := tO) (fun γ _ => (γ.unset 1).unset 2) (fun i _ => ∀ j : Nat, j < i → row[j]? ≠ some none) (Nx.mk () (by walk_at "le") (fun j h => absurd h (Nat.not_lt_zero _))) ?_ ?_
    · rintro i x _ hx nn
      have it : (0 : Int) + (i : Int) = (i : Int) := Int.zero_add _
      cases x with
      | none =>
        walk_at "V"
        rw [it]
        exact k (some (i, i)) (.inr ⟨rfl, hx, un, nn⟩)
      | some x =>
        walk_at "V"
        refine Nx.mk () (by walk_at "le") fun j hj => ?_
        rcases Nat.lt_or_ge j i with z | z
        · exact nn j z
        · rw [show j = i by omega, hx]; exact fun z => by cases z
    rintro _ nn
    walk_at "V"
    exact k none ⟨un, fun j => by
      rcases Nat.lt_or_ge j row.length with z | z
      · exact nn j z
      · rw [List.getElem?_eq_none z]; exact fun z => by cases z⟩
theorem lens_rng (lo hi : Int) : rngT lo (hi + 1 - lo).toNat = (lens lo hi).map VL.T.int := by
  unfold rngT lens
  rw [List.map_map]
  rfl
def spShut (D : Ad) : VSp := fun vs Q _ => ∃ (ss : List Sg) (lo hi : Int), vs = [tSs ss, .int lo, .int hi] ∧ SOk ss ∧ 1 ≤ lo ∧ lo ≤ 60 ∧ 1 ≤ hi ∧ hi ≤ 60 ∧ Q (.new (tTab D (rowsF ss lo hi))) []
theorem sc_shut_lengths : FnScope ["sightings", "least", "most", "rows", "length", "pair"] ["sightings", "least", "most"] (defScope s_shut_lengths) := ⟨rfl, rfl, rfl, by decide +kernel, rfl, by decide +kernel, by decide +kernel⟩
theorem ok_shut_lengths (T : Txt K mg D) : FnOk P w K mg base CX0 13 D.a_shut_lengths D.d_shut_lengths ["sightings", "least", "most"] (vsp K [false, false, false] (spShut D)) := by
  have G_RemainderTable_init := ok_RemainderTable_init (P := P) (w := w) (base := base) T
  have G__shut_by := ok__shut_by (P := P) (w := w) (base := base) T
  have G_remainder_row := ok_remainder_row (P := P) (w := w) (base := base) T
  refine VL.okV T.F_shut_lengths sc_shut_lengths rfl (by decide) (fun cdv A outer s H E hr => have hu := VL.huR hr; ⟨_, (pss_cons (ps_set (i := 3) sc_shut_lengths.nd rfl (Or.inl rfl) (pe_lst pa_nil))
      (pss_cons (ps_for PassesOwn.never rfl (pi_range2 (by rfl) T.n_range (pa_cons (pv 1) (pa_cons (pe_op VL.op_addU (pv 2) pe_int) pa_nil))) (pg_name (i := 4) sc_shut_lengths.nd rfl (Or.inl rfl))
      (pss_cons (ps_set (i := 5) sc_shut_lengths.nd rfl (Or.inl rfl) (pe_call G__shut_by (hr.mono (by decide)) (by rfl) T.g__shut_by T.F__shut_by.kp T.b__shut_by .nil pass0 (pa_cons (pe_call G_remainder_row (hr.mono (by decide)) (by rfl) T.g_remainder_row T.F_remainder_row.kp T.b_remainder_row .nil pass0 (pa_cons (pv 0) (pa_cons (pv 4) pa_nil))) pa_nil)))
      (pss_one (ps_if (pt_cmpR VL.op_notNU (pv 5) pe_non (nomark _))
      (pss_one (ps_expr (pe_bm PySem.F.plainAttrs_list PySem.F.slot_list_append PySem.F.type_list_append mt_append (pv 3) (pa_cons (pe_tup (pa_cons (pv 4) (VL.pa_starK (K := K) rfl (pv 5) pa_nil (by rfl)))) pa_nil))))
      pss_nil))))
      (pss_one (ps_ret (pe_make (T_mk_RemainderTable T) G_RemainderTable_init (hr.mono (by decide)) (by rfl) T.g_RemainderTable T.b_RemainderTable_init .nil pass0 (pa_cons (pv 3) pa_nil)))))), ?_⟩)
  apply VL.wvI
  · intro B; walk_at "vi"
  · intro ts Qv Xv h
    obtain ⟨ss, lo, hi, rfl, so, l1, l2, m1, m2, k⟩ := h
    have s6 := so.1
    have ll : (lens lo hi).length ≤ 60 := by unfold lens; rw [List.length_map, List.length_range]; omega
    walk_at "V"
    rw [lens_rng]
    refine for_mapF (β := List Rw) (fun γ s => ((γ.put 0 (.mu (.lst (s.map tR)))).unset 4).unset 5) (fun i s => s = ((lens lo hi).take i).filterMap fun n => (prs ss n).head?) (Nx.mk [] (by walk_at "le") (by rw [List.take_zero]; rfl)) ?_ ?_
    · rintro i n rs hn rfl
      have il := (List.getElem?_eq_some_iff.mp hn).1
      obtain ⟨n1, n2⟩ := mem_lens.mp (List.mem_of_getElem? hn)
      have rl := List.length_filterMap_le (fun n => (prs ss n).head?) ((lens lo hi).take i)
      rw [List.length_take] at rl
      have rl : (((lens lo hi).take i).filterMap fun n => (prs ss n).head?).length ≤ 60 := by omega
      generalize hrs : (((lens lo hi).take i).filterMap fun n => (prs ss n).head?) = rs at rl
      have nx : ∀ o, (prs ss n).head? = o → (((lens lo hi).take (i + 1)).filterMap fun n => (prs ss n).head?) = rs ++ o.toList := fun o e => by
        rw [XR.take_one hn, List.filterMap_append, hrs]
        congr 1
        rw [List.filterMap_cons, e]
        cases o <;> rfl
      walk_at "V"
      refine ⟨ss, n, rfl, by omega, by omega, s6, ?_⟩
      walk_at "V"
      refine ⟨by unfold rowOf; rw [List.length_map]; exact s6, fun o ho => ?_⟩
      cases o with
      | none =>
        have e := by_none (n := n) ho
        rw [← prs_row] at e
        walk_at "V"
        exact Nx.mk rs (by walk_at "le") (by rw [nx none (by rw [e]; rfl)]; exact (List.append_nil _).symm)
      | some q =>
        obtain ⟨l, e⟩ := by_least (n := n) (i := q.1) (j := q.2) ho
        rw [← prs_row] at e
        walk_at "V"
        exact Nx.mk (rs ++ [(n, (q.1 : Int), (q.2 : Int))]) (by rw [List.map_append]; walk_at "le") (nx (some _) (by rw [e]; rfl)).symm
    rintro rs rfl
    rw [List.take_length]
    have rl := (rows_len (ss := ss) l1 m2).1
    unfold rowsF at rl
    walk_at "V"
    refine ⟨true, (lens lo hi).filterMap fun n => (prs ss n).head?, rfl, by omega, ?_⟩
    walk_at "V"
    exact k
def spIs : VSpF := fun vs Q => ∃ (row : List (Option Int)) (i j : Int), vs = [.tup (row.map tO), .int i, .int j] ∧ row.length ≤ 6 ∧ Q (.bl (FRI row i j))
theorem sc__is_shut : FnScope ["row", "first", "second"] ["row", "first", "second"] (defScope s__is_shut) := ⟨rfl, rfl, rfl, by decide +kernel, rfl, by decide +kernel, by decide +kernel⟩
theorem okv__is_shut (T : Txt K mg D) : FnOk P w K mg base CX0 1 D.a__is_shut D.d__is_shut ["row", "first", "second"] (vsp K (VL.falses 3) (VL.ofF spIs)) := by
  refine VL.okV T.F__is_shut sc__is_shut rfl (by decide) (fun cdv A outer s H E hr => have hu := VL.huR hr; ⟨_, (pss_cons (ps_if (pt_not (VL.pt_chain3 op_le op_le op_lt pe_int (pv 1) (pv 2) (pe_callB VL.call_lenU (by rfl) T.n_len (by decide +kernel) (pa_cons (pv 0) pa_nil))))
      (pss_one (ps_ret pe_bl))
      pss_nil)
      (pss_cons (ps_if (pt_cmpR (op_eqD (VL.hu64 hu)) (pv 1) (pv 2) (nomark _))
      (pss_one (ps_ret (pe_cmpR VL.op_isNU (pe_ix ix_seq (pv 0) (pv 1) (fun _ _ => rfl)) pe_non (nomark _))))
      pss_nil)
      (pss_one (ps_ret (pe_and (pe_cmpR VL.op_notNU (pe_ix ix_seq (pv 0) (pv 1) (fun _ _ => rfl)) pe_non (nomark _)) (pe_and (pe_cmpR VL.op_notNU (pe_ix ix_seq (pv 0) (pv 2) (fun _ _ => rfl)) pe_non (nomark _)) (pe_one (pe_cmpR (op_neD (VL.hu64 hu)) (pe_ix ix_seq (pv 0) (pv 1) (fun _ _ => rfl)) (pe_ix ix_seq (pv 0) (pv 2) (fun _ _ => rfl)) (nomark _))))))))), ?_⟩)
  apply VL.wvI
  · intro B; walk_at "vi"
  · intro ts Qv Xv h
    obtain ⟨Q0, ⟨row, i, j, rfl, hl, k⟩, kq⟩ := h
    walk_at "V"
    have no : ¬ (0 ≤ i ∧ i ≤ j ∧ j < (row.length : Int)) → FRI row i j = false := fun h => by unfold FRI; rw [decide_eq_false h]; rfl
    by_cases c1 : 0 ≤ i
    · rw [decide_eq_true c1]
      walk_at "V"
      by_cases c2 : i ≤ j
      · rw [decide_eq_true c2]
        walk_at "V"
        rw [List.length_map]
        by_cases c3 : j < (row.length : Int)
        · rw [decide_eq_true c3]
          obtain ⟨x, hx, ex⟩ := at_map (f := tO) (xs := row) (i := i) c1 (by omega)
          obtain ⟨y, hy, ey⟩ := at_map (f := tO) (xs := row) (i := j) (by omega) c3
          have yes : FRI row i j = FR row i.toNat j.toNat := by unfold FRI; rw [decide_eq_true ⟨c1, c2, c3⟩]; rfl
          rw [yes] at k
          unfold FR at k
          rw [hx, hy] at k
          walk_at "V"
          by_cases e : i = j
          · subst e
            rw [decide_eq_true rfl]
            walk_at "V"
            cases hx.symm.trans hy
            rw [isNon_o]
            have k : Q0 (.bl (if i.toNat = i.toNat then x.isNone else x.isSome && x.isSome && decide (x ≠ x))) := k
            rw [if_pos rfl] at k
            exact kq _ rfl k
          · rw [decide_eq_false e]
            walk_at "V"
            have k : Q0 (.bl (if i.toNat = j.toNat then x.isNone else x.isSome && y.isSome && decide (x ≠ y))) := k
            rw [if_neg (by omega)] at k
            cases x with
            | none =>
              walk_at "V"
              exact kq _ rfl k
            | some x =>
              cases y with
              | none =>
                walk_at "V"
                exact kq _ rfl k
              | some y =>
                walk_at "V"
                have e2 : decide (some x ≠ some y) = !decide (x = y) := by simp
                have k : Q0 (.bl (true && true && decide (some x ≠ some y))) := k
                rw [e2] at k
                exact kq _ rfl k
        · rw [decide_eq_false c3]
          rw [no (by omega)] at k
          walk_at "V"
          exact kq _ rfl k
      · rw [decide_eq_false c2]
        rw [no (by omega)] at k
        walk_at "V"
        exact kq _ rfl k
    · rw [decide_eq_false c1]
      rw [no (by omega)] at k
      walk_at "V"
      exact kq _ rfl k
theorem ok__is_shut (T : Txt K mg D) : FnOk P w K mg base CX0 1 D.a__is_shut D.d__is_shut ["row", "first", "second"] (vspF K spIs) := VL.okF (okv__is_shut T) (fun ts Q h => by obtain ⟨row, i, j, rfl, _⟩ := h; rfl)
def spJdg (D : Ad) : VSp := fun vs Q _ => ∃ (ss : List Sg) (lo hi : Int) (rs : List Rw), vs = [tSs ss, .int lo, .int hi, tTab D rs] ∧ SOk ss ∧ 1 ≤ lo ∧ lo ≤ 60 ∧ 1 ≤ hi ∧ hi ≤ 60 ∧ rs.length ≤ 200 ∧ Q (.val (.bl (judg ss lo hi rs))) []
theorem sc_judge_table : FnScope ["sightings", "least", "most", "table", "shut", "length", "_", "row"] ["sightings", "least", "most", "table"] (defScope s_judge_table) := ⟨rfl, rfl, rfl, by decide +kernel, rfl, by decide +kernel, by decide +kernel⟩
theorem ok_judge_table (T : Txt K mg D) : FnOk P w K mg base CX0 15 D.a_judge_table D.d_judge_table ["sightings", "least", "most", "table"] (vsp K [false, false, false, false] (spJdg D)) := by
  have G__is_shut := ok__is_shut (P := P) (w := w) (base := base) T
  have G_remainder_row := ok_remainder_row (P := P) (w := w) (base := base) T
  have G_shut_lengths := ok_shut_lengths (P := P) (w := w) (base := base) T
  refine VL.okV T.F_judge_table sc_judge_table rfl (by decide) (fun cdv A outer s H E hr => have hu := VL.huR hr; ⟨_, (pss_cons (ps_setLc (i := 4) (own := [("length", 5), ("_", 6)]) (g := (gTup K 3 (gCons (gName 5) (gCons (gName 6) (gCons (gName 6) gNil))))) (tt := tYes) (by rfl) sc_judge_table.nd rfl rfl (sw_true rfl rfl rfl (by decide +kernel)) (VL.pi_dyn (pe_fld (pe_call G_shut_lengths (hr.mono (by decide)) (by rfl) T.g_shut_lengths T.F_shut_lengths.kp T.b_shut_lengths .nil pass0 (pa_cons (pv 0) (pa_cons (pv 1) (pa_cons (pv 2) pa_nil)))) rfl)) (blkOk_by (own := [("length", 5), ("_", 6)]) (N := ["sightings", "least", "most", "table", "shut", "length", "_", "row"]) (sc := defScope s_judge_table) (by decide +kernel)) (fun _ _ _ _ _ => (pg_tup (by rfl) (pgs_cons (pg_name (i := 5) sc_judge_table.nd rfl (Or.inl rfl)) (pgs_cons (pg_name (i := 6) sc_judge_table.nd rfl (Or.inl rfl)) (pgs_cons (pg_name (i := 6) sc_judge_table.nd rfl (Or.inl rfl)) pgs_nil))))) (fun _ _ _ _ _ => pts_nil) (fun _ _ _ _ _ => (pv 5)))
      (pss_cons (ps_if (pt_cmpR (op_neD (VL.hu64 hu)) (pe_lc (own := [("length", 5), ("_", 6)]) (g := (gTup K 3 (gCons (gName 5) (gCons (gName 6) (gCons (gName 6) gNil))))) (tt := tYes) (by rfl) sc_judge_table.nd (VL.pi_dyn (pe_fld (pv 3) rfl)) (blkOk_by (own := [("length", 5), ("_", 6)]) (N := ["sightings", "least", "most", "table", "shut", "length", "_", "row"]) (sc := defScope s_judge_table) (by decide +kernel)) (fun _ _ _ _ _ => (pg_tup (by rfl) (pgs_cons (pg_name (i := 5) sc_judge_table.nd rfl (Or.inl rfl)) (pgs_cons (pg_name (i := 6) sc_judge_table.nd rfl (Or.inl rfl)) (pgs_cons (pg_name (i := 6) sc_judge_table.nd rfl (Or.inl rfl)) pgs_nil))))) (fun _ _ _ _ _ => pts_nil) (fun _ _ _ _ _ => (pv 5))) (pv 4) (nomark _))
      (pss_one (ps_ret pe_bl))
      pss_nil)
      (pss_one (ps_ret (pe_callB (cr_all rfl) (by rfl) T.n_all (by decide +kernel) (pa_cons (pe_lc (own := [("row", 7)]) (g := (gName 7)) (tt := tYes) (by rfl) sc_judge_table.nd (VL.pi_dyn (pe_fld (pv 3) rfl)) (blkOk_by (own := [("row", 7)]) (N := ["sightings", "least", "most", "table", "shut", "length", "_", "row"]) (sc := defScope s_judge_table) (by decide +kernel)) (fun _ _ _ _ _ => (pg_name (i := 7) sc_judge_table.nd rfl (Or.inl rfl))) (fun _ _ _ _ _ => pts_nil) (fun _ _ _ _ _ => (pe_call G__is_shut (hr.mono (by decide)) (by rfl) T.g__is_shut T.F__is_shut.kp T.b__is_shut .nil pass0 (pa_cons (pe_call G_remainder_row (hr.mono (by decide)) (by rfl) T.g_remainder_row T.F_remainder_row.kp T.b_remainder_row .nil pass0 (pa_cons (pv 0) (pa_cons (pe_ix (VL.ix_seqK (K := K) rfl) (pv 7) pe_int (fun _ _ => rfl)) pa_nil))) (pa_cons (pe_ix (VL.ix_seqK (K := K) rfl) (pv 7) pe_int (fun _ _ => rfl)) (pa_cons (pe_ix (VL.ix_seqK (K := K) rfl) (pv 7) pe_int (fun _ _ => rfl)) pa_nil)))))) pa_nil)))))), ?_⟩)
  apply VL.wvI
  · intro B; walk_at "vi"
  · intro ts Qv Xv h
    obtain ⟨ss, lo, hi, rs, rfl, so, l1, l2, m1, m2, hr, k⟩ := h
    have s6 := so.1
    have rl := (rows_len (ss := ss) l1 m2).1
    walk_at "V"
    refine ⟨ss, lo, hi, rfl, so, l1, l2, m1, m2, ?_⟩
    have em : ∀ l : List Rw, (l.map fun r => VL.T.int r.1) = (l.map Prod.fst).map VL.T.int := fun l => by rw [List.map_map]; rfl
    walk_at "V"
    refine lc_map (fun r => VL.T.int r.1) (fun i r out hr ol => ?_) ?_
    · walk_at "V"
      exact NL.mk _ (by walk_at "le") rfl
    rw [em]
    walk_at "V"
    refine lc_map (fun r => VL.T.int r.1) (fun i r out hr ol => ?_) ?_
    · walk_at "V"
      exact NL.mk _ (by walk_at "le") rfl
    rw [em]
    walk_at "V"
    rw [encInt.list.eq]
    by_cases e : rs.map Prod.fst = (rowsF ss lo hi).map Prod.fst
    · rw [decide_eq_true e]
      have ej : judg ss lo hi rs = okRows ss rs := by unfold judg; rw [decide_eq_true e]; rfl
      rw [ej] at k
      walk_at "V"
      refine lc_map (fun r => VL.T.bl (ftI ss r.1 r.2.1 r.2.2)) (fun i r out hr2 ol => ?_) ?_
      · have hn := size_lens (ss := ss) (lo := lo) (hi := hi) (n := r.1) (e ▸ List.mem_map.mpr ⟨r, List.mem_of_getElem? hr2, rfl⟩)
        walk_at "V"
        refine ⟨ss, r.1, rfl, by omega, by omega, s6, ?_⟩
        walk_at "V"
        refine ⟨rowOf ss r.1, _, _, rfl, by unfold rowOf; rw [List.length_map]; exact s6, ?_⟩
        walk_at "V"
        rw [fri]
        exact NL.mk _ (by walk_at "le") rfl
      walk_at "V"
      refine ⟨rs.map (fun r => ftI ss r.1 r.2.1 r.2.2), by rw [List.map_map]; rfl, ?_⟩
      have ea : (rs.map fun r => ftI ss r.1 r.2.1 r.2.2).all id = okRows ss rs := by unfold okRows; rw [List.all_map]; rfl
      rw [ea]
      walk_at "V"
      exact k
    · rw [decide_eq_false e]
      have ej : judg ss lo hi rs = false := by unfold judg; rw [decide_eq_false e]; rfl
      rw [ej] at k
      walk_at "V"
      exact k
def spGap : VSp := fun vs Q _ => ∃ p g lo hi : Int, vs = [.int p, .int g, .int lo, .int hi] ∧ (0 ≤ p ∧ p ≤ 70) ∧ (-(10 ^ 17) ≤ g ∧ g ≤ 10 ^ 17) ∧ 1 ≤ lo ∧ lo ≤ 60 ∧ 1 ≤ hi ∧ hi ≤ 60 ∧ Q (.new (.lst ((srtD (reach p g lo hi)).map VL.T.int))) []
theorem sc_gap_places : FnScope ["place", "gap", "least", "most", "lengths", "length"] ["place", "gap", "least", "most"] (defScope s_gap_places) := ⟨rfl, rfl, rfl, by decide +kernel, rfl, by decide +kernel, by decide +kernel⟩
theorem ok_gap_places (T : Txt K mg D) : FnOk P w K mg base CX0 3 D.a_gap_places D.d_gap_places ["place", "gap", "least", "most"] (vsp K [false, false, false, false] spGap) := by
  have G_place_on := ok_place_on (P := P) (w := w) (base := base) T
  refine VL.okV T.F_gap_places sc_gap_places rfl (by decide) (fun cdv A outer s H E hr => have hu := VL.huR hr; ⟨_, (pss_cons (ps_setLc (i := 4) (own := [("length", 5)]) (g := (gName 5)) (by rfl) sc_gap_places.nd rfl rfl (sw_true rfl rfl rfl (by decide +kernel)) (pi_range2 (by rfl) T.n_range (pa_cons (pv 2) (pa_cons (pe_op VL.op_addU (pv 3) pe_int) pa_nil))) (blkOk_by (own := [("length", 5)]) (N := ["place", "gap", "least", "most", "lengths", "length"]) (sc := defScope s_gap_places) (by decide +kernel)) (fun _ _ _ _ _ => (pg_name (i := 5) sc_gap_places.nd rfl (Or.inl rfl))) (fun _ _ _ _ _ => (pts_one (pt_cmpR op_lt (pv 0) (pv 5) (nomark _)))) (fun _ _ _ _ _ => (pv 5)))
      (pss_one (ps_ret (pe_callB (VL.call_sortedSet (w := w) rfl rfl) (by rfl) T.n_sorted (by decide +kernel) (pa_cons (SetW.pe_scI (own := [("length", 5)]) (g := (gName 5)) (tt := tYes) (by rfl) sc_gap_places.nd (VL.pi_dyn (pv 4)) (blkOk_by (own := [("length", 5)]) (N := ["place", "gap", "least", "most", "lengths", "length"]) (sc := defScope s_gap_places) (by decide +kernel)) (fun _ _ _ _ _ => (pg_name (i := 5) sc_gap_places.nd rfl (Or.inl rfl))) (fun _ _ _ _ _ => pts_nil) (fun _ _ _ _ _ => (pe_call G_place_on (hr.mono (by decide)) (by rfl) T.g_place_on T.F_place_on.kp T.b_place_on .nil pass0 (pa_cons (pe_tup (pa_cons (pv 5) (pa_cons pe_int pa_nil))) (pa_cons (pe_op (VL.op_addK (K := K) rfl) (pv 0) (pv 1)) pa_nil))))) pa_nil))))), ?_⟩)
  apply VL.wvI
  · intro B; walk_at "vi"
  · intro ts Qv Xv h
    obtain ⟨p, g, lo, hi, rfl, hp, hg, l1, l2, m1, m2, k⟩ := h
    have ll : (lens lo hi).length ≤ 60 := by unfold lens; rw [List.length_map, List.length_range]; omega
    walk_at "V"
    rw [lens_rng]
    refine lc_filter (fun n => decide (p < n)) VL.T.int (fun i n out hn ol => ?_) ?_
    · walk_at "V"
      walk_at "vb"
      · walk_at "V"
        exact NL.keep (decide_eq_true hbr) (by walk_at "le")
      · exact NL.skip (decide_eq_false (by omega)) (by walk_at "le")
    walk_at "V"
    refine ls_map (fun n => (p + g) % n) (Nat.lt_of_le_of_lt (List.length_filter_le _ _) (by omega)) (fun i n ns hn hl => ?_) ?_
    · obtain ⟨n1, n2⟩ := List.mem_filter.mp (List.mem_of_getElem? hn)
      obtain ⟨n3, n4⟩ := mem_lens.mp n1
      walk_at "V"
      refine ⟨n, 0, p + g, rfl, by omega, by omega, ?_⟩
      walk_at "V"
      rw [Int.add_zero]
      exact NS.mk _ (by walk_at "le") rfl
    walk_at "V"
    rw [srtD_setOf]
    exact k
def spPos : VSp := fun vs Q _ => ∃ p o lo hi span : Int, vs = [.int p, .int o, .int lo, .int hi, .int span] ∧ (0 ≤ p ∧ p ≤ 70) ∧ (0 ≤ o ∧ o ≤ 70) ∧ 1 ≤ lo ∧ lo ≤ 60 ∧ 1 ≤ hi ∧ hi ≤ 60 ∧ -3 ≤ span ∧ span ≤ 130 ∧ Q (.new (.lst ((dueG p o lo hi span).map VL.T.int))) []
theorem sc_possible_gaps : FnScope ["place", "other", "least", "most", "span", "lengths", "length", "gap"] ["place", "other", "least", "most", "span"] (defScope s_possible_gaps) := ⟨rfl, rfl, rfl, by decide +kernel, rfl, by decide +kernel, by decide +kernel⟩
theorem ok_possible_gaps (T : Txt K mg D) : FnOk P w K mg base CX0 1 D.a_possible_gaps D.d_possible_gaps ["place", "other", "least", "most", "span"] (vsp K [false, false, false, false, false] spPos) := by
  refine VL.okV T.F_possible_gaps sc_possible_gaps rfl (by decide) (fun cdv A outer s H E hr => have hu := VL.huR hr; ⟨_, (pss_cons (ps_setLc (i := 5) (own := [("length", 6)]) (g := (gName 6)) (by rfl) sc_possible_gaps.nd rfl rfl (sw_true rfl rfl rfl (by decide +kernel)) (pi_range2 (by rfl) T.n_range (pa_cons (pv 2) (pa_cons (pe_op VL.op_addU (pv 3) pe_int) pa_nil))) (blkOk_by (own := [("length", 6)]) (N := ["place", "other", "least", "most", "span", "lengths", "length", "gap"]) (sc := defScope s_possible_gaps) (by decide +kernel)) (fun _ _ _ _ _ => (pg_name (i := 6) sc_possible_gaps.nd rfl (Or.inl rfl))) (fun _ _ _ _ _ => (pts_one (PW.pt (pw_and (pt_cmpR op_lt (pv 0) (pv 6) (nomark _)) (pw_and1 (pt_chain op_le op_lt pe_int (pv 1) (pv 6))))))) (fun _ _ _ _ _ => (pv 6)))
      (pss_one (ps_ret (pe_callB (VL.call_sortedSet (w := w) rfl rfl) (by rfl) T.n_sorted (by decide +kernel) (pa_cons (SetW.pe_scI2 (own := [("length", 6), ("gap", 7)]) (vs1 := [7]) (g := gName 6) (g1 := gName 7) (tt := tYes) (tt1 := tYes) (by rfl) sc_possible_gaps.nd (VL.pi_dyn (pv 5)) (blkOk_by (own := [("length", 6), ("gap", 7)]) (N := ["place", "other", "least", "most", "span", "lengths", "length", "gap"]) (sc := defScope s_possible_gaps) (by decide +kernel)) (by decide) (fun _ _ _ _ _ => (pg_name (i := 6) sc_possible_gaps.nd rfl (Or.inl rfl))) (fun _ _ _ _ _ => pts_nil) (fun _ _ _ _ _ => (pi_range3 (by rfl) T.n_range (pa_cons (pe_op op_mod (pe_op op_sub (pv 1) (pv 0)) (pv 6)) (pa_cons (pe_op (VL.op_addK (K := K) rfl) (pv 4) pe_int) (pa_cons (pv 6) pa_nil))))) (fun _ _ _ _ _ => (pg_name (i := 7) sc_possible_gaps.nd rfl (Or.inl rfl))) (fun _ _ _ _ _ => pts_nil) (fun _ _ _ _ _ => (pv 7))) pa_nil))))), ?_⟩)
  apply VL.wvI
  · intro B; walk_at "vi"
  · intro ts Qv Xv h
    obtain ⟨p, o, lo, hi, span, rfl, hp, ho, l1, l2, m1, m2, s1, s2, k⟩ := h
    have ll : (lens lo hi).length ≤ 60 := by unfold lens; rw [List.length_map, List.length_range]; omega
    walk_at "V"
    rw [lens_rng]
    refine lc_filter (fun n => decide (p < n ∧ 0 ≤ o ∧ o < n)) VL.T.int (fun i n out hn ol => ?_) ?_
    · walk_at "V"
      by_cases c1 : p < n
      · rw [decide_eq_true c1]
        walk_at "V"
        rw [decide_eq_true ho.1]
        walk_at "V"
        by_cases c2 : o < n
        · rw [decide_eq_true c2]
          walk_at "V"
          exact NL.keep (decide_eq_true ⟨c1, ho.1, c2⟩) (by walk_at "le")
        · rw [decide_eq_false c2]
          exact NL.skip (decide_eq_false (by omega)) (by walk_at "le")
      · rw [decide_eq_false c1]
        exact NL.skip (decide_eq_false (by omega)) (by walk_at "le")
    walk_at "V"
    generalize hLs : (lens lo hi).filter (fun n => decide (p < n ∧ 0 ≤ o ∧ o < n)) = Ls
    have inL : ∀ n ∈ Ls, 1 ≤ n ∧ n ≤ 60 := fun n hn => by
      rw [← hLs] at hn
      have := mem_lens.mp (List.mem_filter.mp hn).1
      omega
    refine ls_mapI (fun i ns => ns.Nodup ∧ (∀ g ∈ ns, 0 ≤ g ∧ g ≤ span) ∧ ∀ g, g ∈ ns ↔ ∃ n, n ∈ Ls.take i ∧ 0 ≤ g ∧ g ≤ span ∧ n ∣ g - (o - p)) (by refine ⟨List.nodup_nil, fun g h => (by cases h), fun g => ⟨fun h => (by cases h), ?_⟩⟩; rintro ⟨n, h, _⟩; rw [List.take_zero] at h; cases h) ?_ ?_
    · rintro i n ns hn ⟨nd, nb, nm⟩
      have n1 := inL n (List.mem_of_getElem? hn)
      have r0 := Int.emod_nonneg (o - p) (b := n) (by omega)
      have r1 := Int.emod_lt_of_pos (o - p) (b := n) (by omega)
      walk_at "V"
      refine lcj_stpF (fun γ s => γ.put 1 (.mu (tSet w s))) (fun j s => s.Nodup ∧ (∀ g ∈ s, 0 ≤ g ∧ g ≤ span) ∧ ∀ g, g ∈ s ↔ g ∈ ns ∨ ∃ m : Nat, m < j ∧ g = (o - p) % n + (m : Int) * n) (NLs.mk ns (by walk_at "le") ⟨nd, nb, fun g => ⟨.inl, fun h => h.elim id fun ⟨m, hm, _⟩ => absurd hm (Nat.not_lt_zero _)⟩⟩) ?_ ?_
      · rintro j s hj ⟨sd, sb, sm⟩
        have sl := nd_130 s2 sd sb
        have gb := (step_mem r0 r1 (g := (o - p) % n + (j : Int) * n)).mp ⟨j, hj, rfl⟩
        walk_at "V"
        refine NLs.mk (addS s ((o - p) % n + (j : Int) * n)) (by walk_at "le") ⟨addS_nodup sd, fun g hg => ?_, fun g => ?_⟩
        · rcases addS_mem.mp hg with h | rfl
          · exact sb g h
          · exact ⟨gb.1, gb.2.1⟩
        · rw [addS_mem, sm]
          constructor
          · rintro ((h | ⟨m, hm, e⟩) | e)
            · exact .inl h
            · exact .inr ⟨m, by omega, e⟩
            · exact .inr ⟨j, by omega, e⟩
          · rintro (h | ⟨m, hm, e⟩)
            · exact .inl (.inl h)
            · rcases Nat.lt_or_ge m j with z | z
              · exact .inl (.inr ⟨m, z, e⟩)
              · rw [show m = j by omega] at e; exact .inr e
      · rintro s ⟨sd, sb, sm⟩
        refine NS.mk s (by walk_at "le") ⟨sd, sb, fun g => ?_⟩
        rw [sm, nm, step_mem r0 r1, dvd_mod_iff, XR.take_one hn]
        constructor
        · rintro (⟨n', h, e⟩ | e)
          · exact ⟨n', List.mem_append_left _ h, e⟩
          · exact ⟨n, List.mem_append_right _ (List.mem_singleton.mpr rfl), e⟩
        · rintro ⟨n', h, e⟩
          rcases List.mem_append.mp h with h | h
          · exact .inl ⟨n', h, e⟩
          · rw [List.mem_singleton.mp h] at e; exact .inr e
    rintro ns ⟨nd, nb, nm⟩
    rw [List.take_length] at nm
    walk_at "V"
    rw [due_eq l1 (by rw [hLs]; exact nm)]
    exact k
end
end Toy
set_option Elab.async false
set_option linter.all false
set_option maxRecDepth 100000
set_option maxHeartbeats 4000000
set_option synthInstance.maxSize 1000000
set_option synthInstance.maxHeartbeats 4000000
namespace Toy
open PySem L2 XR VL
local macro_rules | `(tactic| walk_at "ne") => `(tactic| first | assumption | (apply Ne.symm; assumption) | exact XR.ne_fresh (by assumption) (by walk_at "hp") | exact Ne.symm (XR.ne_fresh (by assumption) (by walk_at "hp")))
local macro_rules | `(tactic| walk_at "hp") => `(tactic| first | assumption | exact upd_same | (refine Eq.trans (upd_ne ?_) ?_; (walk_at "ne"); walk_at "hp"))
local macro_rules | `(tactic| walk_at "sq") => `(tactic| first | walk_at "hp" | exact SqL.of (by walk_at "hp") | exact SqT.of (by walk_at "hp") | exact XR.SqT.same (by assumption) (by assumption) | exact XR.SqL.same (by assumption) (by assumption))
local macro_rules | `(tactic| walk_at "br") => `(tactic| (refine ite2 ?_ ?_ <;> intro hbr <;> (try simp only [decide_eq_true_eq, decide_eq_false_iff_not, V.int.injEq, V.bl.injEq, V.str.injEq, Bool.not_eq_true, Bool.not_eq_eq_eq_not, Bool.not_true, Bool.not_false, ne_eq, Int.reduceToNat, Int.reducePow, Int.reduceMul, Int.reduceAdd, Int.reduceSub, reduceCtorEq, not_true_eq_false, not_false_eq_true, Int.not_lt, Int.not_le] at hbr)))
local macro_rules | `(tactic| walk_at "side") => `(tactic| first
  | exact ⟨by decide, by decide, by decide⟩
  | exact .inl ⟨by decide, by decide⟩
  | exact .inr ⟨by decide, by decide⟩
  | exact XR.divw (by first | decide | omega) (by first | decide | omega)
  | (show (_ : Int) = _; first | rfl | omega)
  | (show (0 : Int) < _; first | decide | assumption | omega)
  | exact .inl ⟨by omega, by omega⟩
  | exact .inr ⟨by omega, by omega⟩
  | exact .inl (XR.cmul_mod (by decide))
  | exact XR.log_lt (by omega) (by omega)
  | decide
  | (rw [sizeLine_eq]; simp; done)
  | (show 2 ≤ sizeLine; decide) | (show 3 ≤ sizeLine; decide) | (show 4 ≤ sizeLine; decide) | (show 5 ≤ sizeLine; decide) | (show 6 ≤ sizeLine; decide) | (show 7 ≤ sizeLine; decide) | (show 1 ≤ sizeLine; decide) | (show 8 ≤ sizeLine; decide) | (show 0 ≤ sizeLine; decide))
local macro_rules | `(tactic| walk_at "rd1") => `(tactic| first
  | refine ⟨_, rfl, ?_⟩
  | refine ⟨_, _, rfl, rfl, ?_⟩
  | refine ⟨_, _, _, _, rfl, rfl, (by walk_at "sq"), rfl, ?_⟩
  | refine ⟨_, _, _, _, rfl, rfl, (by walk_at "hp"), (by walk_at "hp"), (by walk_at "side"), ?_⟩
  | refine ⟨_, _, rfl, .inl (by walk_at "sq"), ?_⟩
  | refine ⟨_, _, rfl, .inl ⟨(by walk_at "sq"), ?_⟩⟩
  | refine ⟨_, _, rfl, .inr (by walk_at "sq"), ?_⟩
  | refine ⟨_, _, _, _, _, rfl, (by walk_at "hp"), (by walk_at "cls"), (by walk_at "noat"), rfl, ?_⟩
  | refine ⟨_, _, _, _, rfl, rfl, (by walk_at "sq"), (by first | assumption | exact XR.at0 | exact XR.at1), ?_⟩
  | refine ⟨rfl, ?_⟩
  | refine And.intro (by walk_at "side") ?_
  | refine .inl ⟨_, rfl, ?_⟩
  | refine And.intro ⟨_, (by walk_at "sq")⟩ ?_
  | refine ⟨_, _, rfl, (by walk_at "sq"), ?_⟩
  | refine ⟨_, _, rfl, ?_⟩
  | refine .inr ⟨_, rfl, (by walk_at "side"), ?_⟩
  | refine ⟨_, _, _, rfl, (by walk_at "hp"), ?_⟩
  | refine iteT ?_
  | refine iteF ?_)
local macro_rules | `(tactic| walk_at "rd") => `(tactic| repeat (walk_at "rd1"))
local macro_rules | `(tactic| walk_at "nn") => `(tactic| (simp only [Int.reduceToNat, Int.reducePow, Int.reduceMul, Int.reduceAdd, Int.reduceSub, Int.reduceNeg]))
local macro_rules | `(tactic| walk_at "dr") => `(tactic| repeat (first | refine And.intro (by first | assumption | walk_at "pre") ?_ | refine And.intro (by first | decide | omega) ?_))
local macro_rules | `(tactic| walk_at "vi") => `(tactic| ((try dsimp only [L2.cxOf, L2.Cx.nox, L2.Cx.wish, L2.Cx.blk, L2.Cx.suite, L2.Cx.tr, L2H.cxH, List.map_cons, List.map_nil]); (try simp only [List.map_cons, List.map_nil]); infer_instance))
local macro_rules | `(tactic| walk_at "w") => `(tactic| conv => whnf)
local macro_rules | `(tactic| walk_at "sz") => `(tactic| first
  | (show _ ≤ sizeLine; rw [sizeLine_eq]; first | decide | omega | (simp; done) | (simp; omega))
  | (show _ < sizeLine; rw [sizeLine_eq]; first | decide | omega | (simp; done) | (simp; omega)))
local macro_rules | `(tactic| walk_at "ok") => `(tactic| first
  | exact encInt.list.ok (by decide) _ | exact encInt.tupl.ok (by decide) _ | exact encStr.list.ok (by decide) _ | exact encStr.tupl.ok (by decide) _
  | exact (encInt.pair encInt).list.ok (by decide) _ | exact (encInt.pair encInt).ok (by decide) _ | exact (encStr.pair encStr).list.ok (by decide) _ | exact (encStr.pair encStr).ok (by decide) _
  | exact encInt.tupl.list.ok (by decide) _)
local macro_rules | `(tactic| walk_at "vs") => `(tactic| first
  | exact trivial
  | assumption
  | exact rfl
  | exact ⟨rfl, rfl⟩
  | walk_at "ok"
  | walk_at "sz"
  | exact .inl (.inr ⟨by decide, by decide⟩)
  | exact .inl (.inl ⟨by first | decide | omega, by first | decide | omega⟩)
  | exact .inl (.inr ⟨by first | decide | omega, by first | decide | omega⟩)
  | exact XR.divw (by first | decide | omega) (by first | decide | omega)
  | (show (0 : Int) < _; first | decide | omega)
  | exact ⟨by first | decide | omega, by first | decide | omega⟩
  | exact ⟨by first | decide | omega, by first | decide | omega, by first | decide | omega⟩
  | exact ⟨by walk_at "sz", by omega, by omega⟩
  | exact ⟨by walk_at "cls", by walk_at "noat"⟩
  | exact ⟨by walk_at "xf", by walk_at "xe"⟩
  | walk_at "exm"
  | decide
  | exact XR.log_lt (by omega) (by omega)
  | ((try dsimp only); (try simp only [List.length_map, List.length_append, List.length_cons, List.length_nil, List.length_eraseIdx]); omega))
local macro_rules | `(tactic| walk_at "v") => `(tactic| (walk_at "w"; (repeat ((first | refine And.intro (by walk_at "vs") ?_ | refine isS_i (by assumption) ?_); walk_at "w")); (try walk_at "n")))
local macro_rules | `(tactic| walk_at "isi") => `(tactic| first | refine ⟨_, VL.IsI.int_int _, ?_⟩ | refine ⟨_, VL.IsI.int_bool _, ?_⟩ | refine ⟨_, VL.IsI.int_str _, ?_⟩ | refine ⟨_, VL.IsI.int_list _, ?_⟩ | refine ⟨_, VL.IsI.int_tuple _, ?_⟩ | refine ⟨_, VL.IsI.bl_int _, ?_⟩ | refine ⟨_, VL.IsI.bl_bool _, ?_⟩ | refine ⟨_, VL.IsI.bl_str _, ?_⟩ | refine ⟨_, VL.IsI.str_str _, ?_⟩ | refine ⟨_, VL.IsI.str_int _, ?_⟩ | refine ⟨_, VL.IsI.str_bool _, ?_⟩ | refine ⟨_, VL.IsI.lst_list _, ?_⟩ | refine ⟨_, VL.IsI.lst_tuple _, ?_⟩ | refine ⟨_, VL.IsI.tup_list _, ?_⟩ | refine ⟨_, VL.IsI.tup_tuple _, ?_⟩ | refine ⟨_, VL.IsI.tup_str _, ?_⟩ | refine ⟨_, VL.IsI.tup_int _, ?_⟩ | refine ⟨_, VL.IsI.dk_dict _, ?_⟩ | refine ⟨_, VL.IsI.non_int, ?_⟩ | refine ⟨_, VL.IsI.non_tuple, ?_⟩ | refine ⟨_, VL.IsI.non_list, ?_⟩ | refine ⟨_, VL.IsI.non_str, ?_⟩)
local macro_rules | `(tactic| walk_at "V") => `(tactic| (walk_at "w"; (repeat ((first | refine And.intro (by walk_at "vs") ?_ | refine isS_i (by assumption) ?_ | refine Or.inr ?_ | walk_at "isi" | walk_at "eis" | refine ⟨_, rfl, ?_⟩); walk_at "w")); (try walk_at "n")))
set_option hygiene false
local macro_rules | `(tactic| walk_at "vb") => `(tactic| (refine br_i ?_ ?_ <;> intro hbr <;> (try simp only [nb, decide_eq_true_eq, decide_eq_false_iff_not, Bool.not_eq_true, Bool.not_eq_eq_eq_not, Bool.not_true, Bool.not_false, ne_eq, Bool.and_eq_true, Bool.or_eq_true, Bool.and_eq_false_imp, Decidable.not_not, Int.not_lt, Int.not_le, bne_iff_ne, Bool.not_eq_false, Bool.or_eq_false_iff, reduceCtorEq, not_true_eq_false, not_false_eq_true] at hbr)))
set_option hygiene true
local macro_rules | `(tactic| walk_at "le") => `(tactic| exact VL.Le.to rfl (Nat.le_of_ble_eq_true rfl))
local macro_rules | `(tactic| walk_at "d") => `(tactic| dsimp only at *)
local macro_rules | `(tactic| walk_at "n") => `(tactic| dsimp only [VL.env0, VL.slots0, VL.mem0, VL.nones, VL.falses, VL.put_mk, VL.push_mk, VL.set_mk, VL.unset_mk, VL.wipe_nl, VL.wipe_cs, VL.el_mk, VL.ed_mk, VL.es_mk, VL.frs_nl, VL.frs_cs, VL.fr_mk, VL.frX, VL.frSl, VL.nth, Nat.reduceAdd, Nat.reduceSub, Nat.reduceMul, Nat.reduceBEq, List.set, List.length_cons, List.length_nil, List.cons_append, List.nil_append, VL.qI, VL.qT, VL.qR])
local macro_rules | `(tactic| walk_at "cls") => `(tactic| first | exact T_cl_RemainderTable (by assumption))
local macro_rules | `(tactic| walk_at "noat") => `(tactic| first | exact Txt.no_RemainderTable_rows (by assumption))
local macro_rules | `(tactic| walk_at "eis") => `(tactic| first | fail)
local macro_rules | `(tactic| walk_at "exm") => `(tactic| first | fail)
local macro_rules | `(tactic| walk_at "xf") => `(tactic| first | fail)
local macro_rules | `(tactic| walk_at "xe") => `(tactic| first | fail)
local macro_rules | `(tactic| walk_at "isi") => `(tactic| first | refine ⟨_, VL.IsI.mk _ _ (.obj (fun _ _ _ _ e => T_ty_RemainderTable (by assumption) e)) (.cls _) (Txt.zo_RemainderTable_RemainderTable (by assumption)), ?_⟩ | refine ⟨_, VL.IsI.mk _ _ (.obj (fun _ _ _ _ e => T_ty_RemainderTable (by assumption) e)) (.ty _) (Txt.zo_RemainderTable_bool (by assumption)), ?_⟩ | refine ⟨_, VL.IsI.mk _ _ (.obj (fun _ _ _ _ e => T_ty_RemainderTable (by assumption) e)) (.ty _) (Txt.zo_RemainderTable_int (by assumption)), ?_⟩ | refine ⟨_, VL.IsI.mk _ _ (.obj (fun _ _ _ _ e => T_ty_RemainderTable (by assumption) e)) (.ty _) (Txt.zo_RemainderTable_list (by assumption)), ?_⟩ | refine ⟨_, VL.IsI.mk _ _ (.obj (fun _ _ _ _ e => T_ty_RemainderTable (by assumption) e)) (.ty _) (Txt.zo_RemainderTable_tuple (by assumption)), ?_⟩)
section
variable {P : Program} {w : World} {K : PySem.W.Frag} {mg : Str → Option Value} {base : Heap} {D : Ad}
/-! ### the law's own readings -/
def SgOk (s : Sg) : Prop := (-(10 ^ 17) ≤ s.1 ∧ s.1 ≤ 10 ^ 17) ∧ 0 ≤ s.2 ∧ s.2 ≤ 2 * 10 ^ 17
def tL (rs : List Rw) : T := .lst (rs.map tR)
def spSgs : VSp := fun vs Q _ => ∃ (bx : T) (n : Int), vs = [bx, .int n] ∧ Bx bx ∧ 1 ≤ n ∧ n ≤ 60 ∧ ∀ ss bx', SOk ss → Bx bx' → Q (.new (tSs ss)) [bx']
theorem sc__law_sightings : FnScope ["_law_box_here", "_law_size", "_law_shift", "_law_many", "_law_loose", "_law_off", "_law_reach", "_law_sightings_here", "_law_k", "_law_day", "_law_spot"] ["_law_box_here", "_law_size"] (defScope s__law_sightings) := ⟨rfl, rfl, rfl, by decide +kernel, rfl, by decide +kernel, by decide +kernel⟩
theorem ok__law_sightings (T : Txt K mg D) : FnOk P w K mg base CX0 3 D.a__law_sightings D.d__law_sightings ["_law_box_here", "_law_size"] (vsp K [true, false] spSgs) := by
  have G__law_draw := ok__law_draw (P := P) (w := w) (base := base) T
  refine VL.okV T.F__law_sightings sc__law_sightings rfl (by decide) (fun cdv A outer s H E hr => have hu := VL.huR hr; ⟨_, (pss_cons (ps_set (i := 2) sc__law_sightings.nd rfl (Or.inl rfl) (pe_call G__law_draw (hr.mono (by decide)) (by rfl) T.g__law_draw T.F__law_draw.kp T.b__law_draw .nil pass0 (pa_cons (pv 0) (pa_cons (pv 1) pa_nil))))
      (pss_cons (ps_set (i := 3) sc__law_sightings.nd rfl (Or.inl rfl) (pe_call G__law_draw (hr.mono (by decide)) (by rfl) T.g__law_draw T.F__law_draw.kp T.b__law_draw .nil pass0 (pa_cons (pv 0) (pa_cons pe_int pa_nil))))
      (pss_cons (ps_set (i := 4) sc__law_sightings.nd rfl (Or.inl rfl) (pe_call G__law_draw (hr.mono (by decide)) (by rfl) T.g__law_draw T.F__law_draw.kp T.b__law_draw .nil pass0 (pa_cons (pv 0) (pa_cons pe_int pa_nil))))
      (pss_cons (ps_set (i := 5) sc__law_sightings.nd rfl (Or.inl rfl) (pe_call G__law_draw (hr.mono (by decide)) (by rfl) T.g__law_draw T.F__law_draw.kp T.b__law_draw .nil pass0 (pa_cons (pv 0) (pa_cons pe_int pa_nil))))
      (pss_cons (ps_set (i := 6) sc__law_sightings.nd rfl (Or.inl rfl) (pe_ix ix_seq (pe_lst (pa_cons pe_int (pa_cons pe_int (pa_cons (pe_op op_pow pe_int pe_int) (pa_cons (pe_op op_pow pe_int pe_int) pa_nil))))) (pe_call G__law_draw (hr.mono (by decide)) (by rfl) T.g__law_draw T.F__law_draw.kp T.b__law_draw .nil pass0 (pa_cons (pv 0) (pa_cons pe_int pa_nil))) (fun _ _ => rfl)))
      (pss_cons (ps_set (i := 7) sc__law_sightings.nd rfl (Or.inl rfl) (pe_lst pa_nil))
      (pss_cons (ps_for PassesOwn.never rfl (pi_range1 (by rfl) T.n_range (pa_cons (pv 3) pa_nil)) (pg_name (i := 8) sc__law_sightings.nd rfl (Or.inl rfl))
      (pss_cons (ps_set (i := 9) sc__law_sightings.nd rfl (Or.inl rfl) (pe_op op_sub (pe_call G__law_draw (hr.mono (by decide)) (by rfl) T.g__law_draw T.F__law_draw.kp T.b__law_draw .nil pass0 (pa_cons (pv 0) (pa_cons (pe_op VL.op_addU (pe_op VL.op_mulU pe_int (pv 6)) pe_int) pa_nil))) (pv 6)))
      (pss_cons (ps_set (i := 10) sc__law_sightings.nd rfl (Or.inl rfl) (pe_op op_mod (pe_callTy VL.call_intU (by rfl) T.n_int (by decide +kernel) (pa_cons (pe_op VL.op_addU (pv 9) (pv 2)) pa_nil)) (pv 1)))
      (pss_cons (ps_if (pt_cmpR (op_eqD (VL.hu64 hu)) (pv 4) pe_int (nomark _))
      (pss_one (ps_set (i := 10) sc__law_sightings.nd rfl (Or.inl rfl) (pe_call G__law_draw (hr.mono (by decide)) (by rfl) T.g__law_draw T.F__law_draw.kp T.b__law_draw .nil pass0 (pa_cons (pv 0) (pa_cons (pe_ix ix_seq (pe_lst (pa_cons pe_int (pa_cons pe_int (pa_cons (pe_op op_pow pe_int pe_int) pa_nil)))) (pe_call G__law_draw (hr.mono (by decide)) (by rfl) T.g__law_draw T.F__law_draw.kp T.b__law_draw .nil pass0 (pa_cons (pv 0) (pa_cons pe_int pa_nil))) (fun _ _ => rfl)) pa_nil)))))
      pss_nil)
      (pss_cons (ps_if (PW.pt (pw_and (pt_cmpR (op_eqD (VL.hu64 hu)) (pv 4) pe_int (nomark _)) (pw_and1 (pt_cmpR (op_eqD (VL.hu64 hu)) (pv 8) (pv 5) (nomark _)))))
      (pss_one (ps_set (i := 10) sc__law_sightings.nd rfl (Or.inl rfl) (pe_op VL.op_addU (pe_op VL.op_addU (pv 10) pe_int) (pe_call G__law_draw (hr.mono (by decide)) (by rfl) T.g__law_draw T.F__law_draw.kp T.b__law_draw .nil pass0 (pa_cons (pv 0) (pa_cons pe_int pa_nil))))))
      pss_nil)
      (pss_one (ps_expr (pe_bm PySem.F.plainAttrs_list PySem.F.slot_list_append PySem.F.type_list_append mt_append (pv 7) (pa_cons (pe_tup (pa_cons (pv 9) (pa_cons (pv 10) pa_nil))) pa_nil)))))))))
      (pss_one (ps_ret (pv 7)))))))))), ?_⟩)
  apply VL.wvI
  · intro B; walk_at "vi"
  · intro ts Qv Xv h
    obtain ⟨bx, n, rfl, hB, n1, n2, k⟩ := h
    walk_at "V"
    refine ⟨_, _, rfl, hB, by omega, by omega, fun sh b1 s0 s1 B1 => ?_⟩
    walk_at "V"
    refine ⟨_, _, rfl, B1, by decide, by decide, fun m b2 m0 m1 B2 => ?_⟩
    walk_at "V"
    refine ⟨_, _, rfl, B2, by decide, by decide, fun lo b3 l0 l1 B3 => ?_⟩
    walk_at "V"
    refine ⟨_, _, rfl, B3, by decide, by decide, fun of b4 o0 o1 B4 => ?_⟩
    walk_at "V"
    refine ⟨_, _, rfl, B4, by decide, by decide, fun w b5 w0 w1 B5 => ?_⟩
    refine isS_lit (l := [9, 400, 10 ^ Int.toNat 9, 10 ^ Int.toNat 17]) w0 w1 fun reach hr => ?_
    have hr : 0 ≤ reach ∧ reach ≤ 10 ^ 17 := (by decide : ∀ z ∈ [9, 400, 10 ^ Int.toNat 9, (10 : Int) ^ Int.toNat 17], 0 ≤ z ∧ z ≤ 10 ^ 17) reach hr
    walk_at "V"
    refine for_rngF (β := VL.T × List Sg) (fun γ s => ((((γ.put 0 (.mu s.1)).put 2 (.mu (.lst (s.2.map tP)))).unset 8).unset 9).unset 10) (fun i s => Bx s.1 ∧ s.2.length = i ∧ ∀ q ∈ s.2, SgOk q) (Nx.mk (b5, []) (by walk_at "le") ⟨B5, rfl, fun q h => by cases h⟩) ?_ ?_
    · rintro i ⟨bb, ss⟩ hi ⟨B, sl, so⟩
      walk_at "d"
      have sl : ss.length = i := sl
      have fin : ∀ d p : Int, (-(10 ^ 17) ≤ d ∧ d ≤ 10 ^ 17) → 0 ≤ p → p ≤ 2 * 10 ^ 17 → (ss ++ [(d, p)]).length = i + 1 ∧ ∀ q ∈ ss ++ [(d, p)], SgOk q := fun d p hd p0 p1 => ⟨by rw [List.length_append, sl]; rfl, fun q hq => (List.mem_append.mp hq).elim (so q) fun z => by rw [List.mem_singleton.mp z]; exact ⟨hd, p0, p1⟩⟩
      walk_at "V"
      refine ⟨_, _, rfl, B, by omega, by omega, fun x b6 x0 x1 B6 => ?_⟩
      have hd : -(10 ^ 17) ≤ x - reach ∧ x - reach ≤ 10 ^ 17 := by omega
      have q0 := Int.emod_nonneg (x - reach + sh) (b := n) (by omega)
      have q1 := Int.emod_lt_of_pos (x - reach + sh) (b := n) (by omega)
      walk_at "V"
      by_cases c3 : lo = 3
      · rw [decide_eq_true c3]
        walk_at "V"
        refine ⟨_, _, rfl, B6, by decide, by decide, fun y b7 y0 y1 B7 => ?_⟩
        refine isS_lit (l := [12, 70, 10 ^ Int.toNat 17]) y0 y1 fun top ht => ?_
        have ht : 0 < top ∧ top ≤ 10 ^ 17 := (by decide : ∀ z ∈ [12, 70, (10 : Int) ^ Int.toNat 17], 0 < z ∧ z ≤ 10 ^ 17) top ht
        walk_at "V"
        refine ⟨_, _, rfl, B7, by omega, by omega, fun p2 b8 p0 p1 B8 => ?_⟩
        walk_at "V"
        rw [decide_eq_false (show ¬ lo = 2 by omega)]
        walk_at "V"
        exact Nx.mk (b8, ss ++ [(x - reach, p2)]) (by rw [List.map_append]; walk_at "le") ⟨B8, fin (x - reach) p2 hd p0 (by omega)⟩
      · rw [decide_eq_false c3]
        walk_at "V"
        by_cases c2 : lo = 2
        · rw [decide_eq_true c2]
          walk_at "V"
          by_cases c4 : (0 : Int) + (i : Int) = of
          · rw [decide_eq_true c4]
            walk_at "V"
            refine ⟨_, _, rfl, B6, by decide, by decide, fun y b7 y0 y1 B7 => ?_⟩
            walk_at "V"
            exact Nx.mk (b7, ss ++ [(x - reach, (x - reach + sh) % n + 1 + y)]) (by rw [List.map_append]; walk_at "le") ⟨B7, fin (x - reach) _ hd (by omega) (by omega)⟩
          · rw [decide_eq_false c4]
            walk_at "V"
            exact Nx.mk (b6, ss ++ [(x - reach, (x - reach + sh) % n)]) (by rw [List.map_append]; walk_at "le") ⟨B6, fin (x - reach) _ hd q0 (by omega)⟩
        · rw [decide_eq_false c2]
          walk_at "V"
          exact Nx.mk (b6, ss ++ [(x - reach, (x - reach + sh) % n)]) (by rw [List.map_append]; walk_at "le") ⟨B6, fin (x - reach) _ hd q0 (by omega)⟩
    rintro ⟨bb, ss⟩ ⟨B, sl, so⟩
    have sl : ss.length = m.toNat := sl
    walk_at "V"
    exact k ss _ ⟨by omega, so⟩ B
def spBnd : VSp := fun vs Q _ => ∃ (bx : T) (n : Int), vs = [bx, .int n] ∧ Bx bx ∧ 1 ≤ n ∧ n ≤ 60 ∧ ∀ lo hi bx', 1 ≤ lo → lo ≤ 60 → 1 ≤ hi → hi ≤ 60 → Bx bx' → Q (.val (.tup [.int lo, .int hi])) [bx']
theorem sc__law_bounds : FnScope ["_law_box_here", "_law_size", "_law_least", "_law_wide", "_law_more"] ["_law_box_here", "_law_size"] (defScope s__law_bounds) := ⟨rfl, rfl, rfl, by decide +kernel, rfl, by decide +kernel, by decide +kernel⟩
theorem ok__law_bounds (T : Txt K mg D) : FnOk P w K mg base CX0 3 D.a__law_bounds D.d__law_bounds ["_law_box_here", "_law_size"] (vsp K [true, false] spBnd) := by
  have G__law_draw := ok__law_draw (P := P) (w := w) (base := base) T
  refine VL.okV T.F__law_bounds sc__law_bounds rfl (by decide) (fun cdv A outer s H E hr => have hu := VL.huR hr; ⟨_, (pss_cons (ps_set (i := 2) sc__law_bounds.nd rfl (Or.inl rfl) (pe_op VL.op_addU pe_int (pe_call G__law_draw (hr.mono (by decide)) (by rfl) T.g__law_draw T.F__law_draw.kp T.b__law_draw .nil pass0 (pa_cons (pv 0) (pa_cons pe_int pa_nil)))))
      (Evl.pss_cut (ps_if (pt_cmpR (op_eqD (VL.hu64 hu)) (pe_call G__law_draw (hr.mono (by decide)) (by rfl) T.g__law_draw T.F__law_draw.kp T.b__law_draw .nil pass0 (pa_cons (pv 0) (pa_cons pe_int pa_nil))) pe_int (nomark _))
      (pss_one (ps_set (i := 2) sc__law_bounds.nd rfl (Or.inl rfl) (pe_callB (VL.call_max2U rfl) (by rfl) T.n_max (by decide +kernel) (pa_cons pe_int (pa_cons (pe_op op_sub (pv 1) (pe_call G__law_draw (hr.mono (by decide)) (by rfl) T.g__law_draw T.F__law_draw.kp T.b__law_draw .nil pass0 (pa_cons (pv 0) (pa_cons pe_int pa_nil)))) pa_nil)))))
      pss_nil)
      (pss_cons (ps_set (i := 3) sc__law_bounds.nd rfl (Or.inl rfl) (pe_call G__law_draw (hr.mono (by decide)) (by rfl) T.g__law_draw T.F__law_draw.kp T.b__law_draw .nil pass0 (pa_cons (pv 0) (pa_cons pe_int pa_nil))))
      (pss_cons (ps_set (i := 4) sc__law_bounds.nd rfl (Or.inl rfl) (pe_op op_sub (pe_call G__law_draw (hr.mono (by decide)) (by rfl) T.g__law_draw T.F__law_draw.kp T.b__law_draw .nil pass0 (pa_cons (pv 0) (pa_cons pe_int pa_nil))) pe_int))
      (Evl.pss_cut (ps_if (pt_cmpR (op_eqD (VL.hu64 hu)) (pv 3) pe_int (nomark _))
      (pss_one (ps_set (i := 4) sc__law_bounds.nd rfl (Or.inl rfl) (pe_call G__law_draw (hr.mono (by decide)) (by rfl) T.g__law_draw T.F__law_draw.kp T.b__law_draw .nil pass0 (pa_cons (pv 0) (pa_cons pe_int pa_nil)))))
      pss_nil)
      (pss_one (ps_ret (pe_tup (pa_cons (pv 2) (pa_cons (pe_callB (VL.call_max2U rfl) (by rfl) T.n_max (by decide +kernel) (pa_cons pe_int (pa_cons (pe_callB (VL.call_min2U rfl) (by rfl) T.n_min (by decide +kernel) (pa_cons pe_int (pa_cons (pe_op VL.op_addU (pv 2) (pv 4)) pa_nil))) pa_nil))) pa_nil)))))))))), ?_⟩)
  apply VL.wvI
  · intro B; walk_at "vi"
  · intro ts Qv Xv h
    obtain ⟨bx, n, rfl, hB, n1, n2, k⟩ := h
    walk_at "V"
    refine ⟨_, _, rfl, hB, by decide, by decide, fun a b1 a0 a1 B1 => ?_⟩
    walk_at "V"
    refine cut_st (β := VL.T × Int) (fun s => ⟨1, [qR 0, qI n, qI s.2, none, none], [.mu s.1]⟩) (fun s => Bx s.1 ∧ 1 ≤ s.2 ∧ s.2 ≤ 60) ?_ ?_
    · walk_at "V"
      refine ⟨_, _, rfl, B1, by decide, by decide, fun z b2 z0 z1 B2 => ?_⟩
      walk_at "V"
      by_cases c : z = 0
      · rw [decide_eq_true c]
        walk_at "V"
        refine ⟨_, _, rfl, B2, by decide, by decide, fun y b3 y0 y1 B3 => ?_⟩
        walk_at "V"
        exact Nx.mk (b3, max 1 (n - y)) (by walk_at "le") ⟨B3, by dsimp only; omega, by dsimp only; omega⟩
      · rw [decide_eq_false c]
        walk_at "V"
        exact Nx.mk (b2, 1 + a) (by walk_at "le") ⟨B2, by dsimp only; omega, by dsimp only; omega⟩
    rintro ⟨b2, lo⟩ ⟨B2, lo1, lo2⟩
    walk_at "d"
    walk_at "V"
    refine ⟨_, _, rfl, B2, by decide, by decide, fun wd b3 w0 w1 B3 => ?_⟩
    walk_at "V"
    refine ⟨_, _, rfl, B3, by decide, by decide, fun mo b4 o0 o1 B4 => ?_⟩
    walk_at "V"
    refine cut_st (β := VL.T × Int) (fun s => ⟨1, [qR 0, qI n, qI lo, qI wd, qI s.2], [.mu s.1]⟩) (fun s => Bx s.1 ∧ -1 ≤ s.2 ∧ s.2 ≤ 60) ?_ ?_
    · walk_at "V"
      by_cases c : wd = 1
      · rw [decide_eq_true c]
        walk_at "V"
        refine ⟨_, _, rfl, B4, by decide, by decide, fun y b5 y0 y1 B5 => ?_⟩
        walk_at "V"
        exact Nx.mk (b5, y) (by walk_at "le") ⟨B5, by dsimp only; omega, by dsimp only; omega⟩
      · rw [decide_eq_false c]
        walk_at "V"
        exact Nx.mk (b4, mo - 1) (by walk_at "le") ⟨B4, by dsimp only; omega, by dsimp only; omega⟩
    rintro ⟨b5, mo⟩ ⟨B5, mo1, mo2⟩
    walk_at "d"
    walk_at "V"
    exact k lo (max 1 (min 60 (lo + mo))) b5 lo1 lo2 (by omega) (by omega) B5
def spFits : VSpF := fun vs Q => ∃ (ss : List Sg) (n i j : Int), vs = [tSs ss, .int n, .int i, .int j] ∧ SOk ss ∧ 1 ≤ n ∧ n < 2 ^ 62 ∧ Q (.bl (ftI ss n i j))
theorem sc__law_fits : FnScope ["_law_sightings_here", "_law_size", "_law_first", "_law_second", "_law_one", "_law_other"] ["_law_sightings_here", "_law_size", "_law_first", "_law_second"] (defScope s__law_fits) := ⟨rfl, rfl, rfl, by decide +kernel, rfl, by decide +kernel, by decide +kernel⟩
theorem okv__law_fits (T : Txt K mg D) : FnOk P w K mg base CX0 1 D.a__law_fits D.d__law_fits ["_law_sightings_here", "_law_size", "_law_first", "_law_second"] (vsp K (VL.falses 4) (VL.ofF spFits)) := by
  refine VL.okV T.F__law_fits sc__law_fits rfl (by decide) (fun cdv A outer s H E hr => have hu := VL.huR hr; ⟨_, (pss_cons (ps_if (pt_not (VL.pt_chain3 op_le op_le op_lt pe_int (pv 2) (pv 3) (pe_callB VL.call_lenU (by rfl) T.n_len (by decide +kernel) (pa_cons (pv 0) pa_nil))))
      (pss_one (ps_ret pe_bl))
      pss_nil)
      (pss_cons (ps_set (i := 4) sc__law_fits.nd rfl (Or.inl rfl) (pe_ix ix_seq (pv 0) (pv 2) (fun _ _ => rfl)))
      (pss_cons (ps_set (i := 5) sc__law_fits.nd rfl (Or.inl rfl) (pe_ix ix_seq (pv 0) (pv 3) (fun _ _ => rfl)))
      (pss_cons (ps_if (pt_cmpR (op_eqD (VL.hu64 hu)) (pv 2) (pv 3) (nomark _))
      (pss_one (ps_ret (pe_cmpR op_ge (pe_ix ix_seq (pv 4) pe_int (fun _ _ => rfl)) (pv 1) (nomark _))))
      pss_nil)
      (pss_cons (ps_if (PW.pt (pw_or (pt_cmpR op_ge (pe_ix ix_seq (pv 4) pe_int (fun _ _ => rfl)) (pv 1) (nomark _)) (pw_or1 (pt_cmpR op_ge (pe_ix ix_seq (pv 5) pe_int (fun _ _ => rfl)) (pv 1) (nomark _)))))
      (pss_one (ps_ret pe_bl))
      pss_nil)
      (pss_one (ps_ret (pe_cmpR (op_neD (VL.hu64 hu)) (pe_op op_mod (pe_callTy VL.call_intU (by rfl) T.n_int (by decide +kernel) (pa_cons (pe_op VL.op_addU (pe_op op_sub (pe_op op_sub (pe_ix ix_seq (pv 4) pe_int (fun _ _ => rfl)) (pe_ix ix_seq (pv 4) pe_int (fun _ _ => rfl))) (pe_ix ix_seq (pv 5) pe_int (fun _ _ => rfl))) (pe_ix ix_seq (pv 5) pe_int (fun _ _ => rfl))) pa_nil)) (pv 1)) pe_int (nomark _))))))))), ?_⟩)
  apply VL.wvI
  · intro B; walk_at "vi"
  · intro ts Qv Xv h
    obtain ⟨Q0, ⟨ss, n, i, j, rfl, so, n1, n2, k⟩, kq⟩ := h
    walk_at "V"
    have no : ¬ (0 ≤ i ∧ i ≤ j ∧ j < (ss.length : Int)) → ftI ss n i j = false := fun h => by unfold ftI; rw [decide_eq_false h]; rfl
    by_cases c1 : 0 ≤ i
    · rw [decide_eq_true c1]
      walk_at "V"
      by_cases c2 : i ≤ j
      · rw [decide_eq_true c2]
        walk_at "V"
        rw [List.length_map]
        by_cases c3 : j < (ss.length : Int)
        · rw [decide_eq_true c3]
          obtain ⟨x, hx, ex⟩ := at_map (f := tP) (xs := ss) (i := i) c1 (by omega)
          obtain ⟨y, hy, ey⟩ := at_map (f := tP) (xs := ss) (i := j) (by omega) c3
          have yes : ftI ss n i j = FT ss n i.toNat j.toNat := by unfold ftI; rw [decide_eq_true ⟨c1, c2, c3⟩]; rfl
          have bx := so.2 x (List.mem_of_getElem? hx)
          have by_ := so.2 y (List.mem_of_getElem? hy)
          rw [yes] at k
          unfold FT at k
          rw [hx, hy] at k
          have k : Q0 (.bl (if i.toNat = j.toNat then decide (n ≤ x.2) else decide (x.2 < n ∧ y.2 < n ∧ (x.2 - x.1 - y.2 + y.1) % n ≠ 0))) := k
          walk_at "V"
          by_cases e : i = j
          · subst e
            cases hx.symm.trans hy
            rw [if_pos rfl] at k
            rw [decide_eq_true rfl]
            walk_at "V"
            exact kq _ rfl k
          · rw [if_neg (by omega)] at k
            rw [decide_eq_false e]
            walk_at "V"
            by_cases h1 : n ≤ x.2
            · rw [decide_eq_false (by omega)] at k
              rw [decide_eq_true h1]
              walk_at "V"
              exact kq _ rfl k
            · rw [decide_eq_false h1]
              walk_at "V"
              by_cases h2 : n ≤ y.2
              · rw [decide_eq_false (by omega)] at k
                rw [decide_eq_true h2]
                walk_at "V"
                exact kq _ rfl k
              · rw [decide_eq_false h2]
                walk_at "V"
                have e2 : decide (x.2 < n ∧ y.2 < n ∧ (x.2 - x.1 - y.2 + y.1) % n ≠ 0) = !decide ((x.2 - x.1 - y.2 + y.1) % n = 0) := by
                  have a1 : x.2 < n := by omega
                  have a2 : y.2 < n := by omega
                  simp [a1, a2]
                rw [e2] at k
                exact kq _ rfl k
        · rw [decide_eq_false c3]
          rw [no (by omega)] at k
          walk_at "V"
          exact kq _ rfl k
      · rw [decide_eq_false c2]
        rw [no (by omega)] at k
        walk_at "V"
        exact kq _ rfl k
    · rw [decide_eq_false c1]
      rw [no (by omega)] at k
      walk_at "V"
      exact kq _ rfl k
theorem ok__law_fits (T : Txt K mg D) : FnOk P w K mg base CX0 1 D.a__law_fits D.d__law_fits ["_law_sightings_here", "_law_size", "_law_first", "_law_second"] (vspF K spFits) := VL.okF (okv__law_fits T) (fun ts Q h => by obtain ⟨ss, n, i, j, rfl, _⟩ := h; rfl)
def spPrs : VSp := fun vs Q _ => ∃ (ss : List Sg) (n : Int), vs = [tSs ss, .int n] ∧ SOk ss ∧ 1 ≤ n ∧ n < 2 ^ 62 ∧ Q (.new (.lst ((prs ss n).map tR))) []
theorem sc__law_pairs : FnScope ["_law_sightings_here", "_law_size", "_law_pairs_here", "_law_first", "_law_second"] ["_law_sightings_here", "_law_size"] (defScope s__law_pairs) := ⟨rfl, rfl, rfl, by decide +kernel, rfl, by decide +kernel, by decide +kernel⟩
theorem ok__law_pairs (T : Txt K mg D) : FnOk P w K mg base CX0 3 D.a__law_pairs D.d__law_pairs ["_law_sightings_here", "_law_size"] (vsp K [false, false] spPrs) := by
  have G__law_fits := ok__law_fits (P := P) (w := w) (base := base) T
  refine VL.okV T.F__law_pairs sc__law_pairs rfl (by decide) (fun cdv A outer s H E hr => have hu := VL.huR hr; ⟨_, (pss_cons (ps_set (i := 2) sc__law_pairs.nd rfl (Or.inl rfl) (pe_lst pa_nil))
      (pss_cons (ps_for PassesOwn.never rfl (pi_range1 (by rfl) T.n_range (pa_cons (pe_callB VL.call_lenU (by rfl) T.n_len (by decide +kernel) (pa_cons (pv 0) pa_nil)) pa_nil)) (pg_name (i := 3) sc__law_pairs.nd rfl (Or.inl rfl))
      (pss_one (ps_for PassesOwn.never rfl (pi_range2 (by rfl) T.n_range (pa_cons (pv 3) (pa_cons (pe_callB VL.call_lenU (by rfl) T.n_len (by decide +kernel) (pa_cons (pv 0) pa_nil)) pa_nil))) (pg_name (i := 4) sc__law_pairs.nd rfl (Or.inl rfl))
      (pss_one (ps_if (pt_val (pe_call G__law_fits (hr.mono (by decide)) (by rfl) T.g__law_fits T.F__law_fits.kp T.b__law_fits .nil pass0 (pa_cons (pv 0) (pa_cons (pv 1) (pa_cons (pv 3) (pa_cons (pv 4) pa_nil))))))
      (pss_one (ps_expr (pe_bm PySem.F.plainAttrs_list PySem.F.slot_list_append PySem.F.type_list_append mt_append (pv 2) (pa_cons (pe_tup (pa_cons (pv 1) (pa_cons (pv 3) (pa_cons (pv 4) pa_nil)))) pa_nil))))
      pss_nil)))))
      (pss_one (ps_ret (pv 2))))), ?_⟩)
  apply VL.wvI
  · intro B; walk_at "vi"
  · intro ts Qv Xv h
    obtain ⟨ss, n, rfl, so, n1, n2, k⟩ := h
    have s6 := so.1
    walk_at "V"
    rw [List.length_map]
    refine for_rngF (β := List Rw) (fun γ s => ((γ.put 0 (.mu (.lst (s.map tR)))).unset 3).unset 4) (fun i s => s = allF ss.length (FT ss n) n i) (Nx.mk [] (by walk_at "le") rfl) ?_ ?_
    · rintro i rs hi rfl
      have hi : i < ss.length := by omega
      have al := allF_len (m := ss.length) (f := FT ss n) (n := n) i
      have al2 : i * ss.length ≤ 36 := Nat.le_trans (Nat.mul_le_mul (show i ≤ 6 by omega) s6) (by decide)
      have it : (0 : Int) + (i : Int) = (i : Int) := Int.zero_add _
      walk_at "V"
      rw [List.length_map, it]
      refine for_rngF (β := List Rw) (fun γ s => (γ.put 0 (.mu (.lst (s.map tR)))).unset 4) (fun d s => s = allF ss.length (FT ss n) n i ++ upto ss.length (FT ss n) n i d) (Nx.mk (allF ss.length (FT ss n) n i) (by walk_at "le") (List.append_nil _).symm) ?_ ?_
      · rintro d rs hd rfl
        have ul := upto_len (m := ss.length) (f := FT ss n) (n := n) (i := i) d
        have hd : d < ss.length - i := by omega
        have id : (i : Int) + (d : Int) = ((i + d : Nat) : Int) := by omega
        have ft : ftI ss n i ((i + d : Nat) : Int) = FT ss n i (i + d) := by
          unfold ftI
          rw [decide_eq_true (by omega)]
          rfl
        generalize hrs : allF ss.length (FT ss n) n i = rs at al
        generalize hus : upto ss.length (FT ss n) n i d = us at ul
        have nx : rs ++ upto ss.length (FT ss n) n i (d + 1) = rs ++ us ++ if FT ss n i (i + d) then [(n, (i : Int), ((i + d : Nat) : Int))] else [] := by rw [upto_succ, hus, List.append_assoc]
        rw [id]
        walk_at "V"
        refine ⟨ss, n, (i : Int), ((i + d : Nat) : Int), rfl, so, n1, n2, ?_⟩
        rw [ft]
        have ln : ((rs ++ us).map tR).length < 1000 := by rw [List.length_map, List.length_append]; omega
        cases hf : FT ss n i (i + d) with
        | true =>
          rw [hf] at nx
          walk_at "V"
          exact Nx.mk (rs ++ us ++ [(n, (i : Int), ((i + d : Nat) : Int))]) (by rw [List.map_append (l₁ := rs ++ us)]; walk_at "le") nx.symm
        | false =>
          rw [hf] at nx
          walk_at "V"
          exact Nx.mk (rs ++ us) (by walk_at "le") (by rw [nx]; exact (List.append_nil _).symm)
      · rintro rs rfl
        exact Nx.mk _ (by walk_at "le") (by rw [allF_succ]; congr 2; omega)
    rintro rs rfl
    walk_at "V"
    rw [Int.toNat_natCast]
    exact k
def spRws : VSp := fun vs Q _ => ∃ (ss : List Sg) (lo hi : Int) (z : Bool), vs = [tSs ss, .tup [.int lo, .int hi], .int (if z then 1 else 0)] ∧ SOk ss ∧ 1 ≤ lo ∧ lo ≤ 60 ∧ 1 ≤ hi ∧ hi ≤ 60 ∧ Q (.new (.lst ((if z then rowsL ss lo hi else rowsF ss lo hi).map tR))) []
def pk (z : Bool) (l : List Rw) : Option Rw := if z then l.getLast? else l.head?
theorem rows_pk (ss : List Sg) (lo hi : Int) (z : Bool) : (if z then rowsL ss lo hi else rowsF ss lo hi) = (lens lo hi).filterMap fun n => pk z (prs ss n) := by
  cases z <;> rfl
theorem sc__law_rows : FnScope ["_law_sightings_here", "_law_bounds_here", "_law_last", "_law_rows_here", "_law_size", "_law_pairs_here"] ["_law_sightings_here", "_law_bounds_here", "_law_last"] (defScope s__law_rows) := ⟨rfl, rfl, rfl, by decide +kernel, rfl, by decide +kernel, by decide +kernel⟩
theorem ok__law_rows (T : Txt K mg D) : FnOk P w K mg base CX0 5 D.a__law_rows D.d__law_rows ["_law_sightings_here", "_law_bounds_here", "_law_last"] (vsp K [false, false, false] spRws) := by
  have G__law_pairs := ok__law_pairs (P := P) (w := w) (base := base) T
  refine VL.okV T.F__law_rows sc__law_rows rfl (by decide) (fun cdv A outer s H E hr => have hu := VL.huR hr; ⟨_, (pss_cons (ps_set (i := 3) sc__law_rows.nd rfl (Or.inl rfl) (pe_lst pa_nil))
      (pss_cons (ps_for PassesOwn.never rfl (pi_range2 (by rfl) T.n_range (pa_cons (pe_ix ix_seq (pv 1) pe_int (fun _ _ => rfl)) (pa_cons (pe_op VL.op_addU (pe_ix ix_seq (pv 1) pe_int (fun _ _ => rfl)) pe_int) pa_nil))) (pg_name (i := 4) sc__law_rows.nd rfl (Or.inl rfl))
      (pss_cons (ps_set (i := 5) sc__law_rows.nd rfl (Or.inl rfl) (pe_call G__law_pairs (hr.mono (by decide)) (by rfl) T.g__law_pairs T.F__law_pairs.kp T.b__law_pairs .nil pass0 (pa_cons (pv 0) (pa_cons (pv 4) pa_nil))))
      (pss_one (ps_if (pt_cmpR (op_neD (VL.hu64 hu)) (pv 5) (pe_lst pa_nil) (nomark _))
      (pss_one (ps_expr (pe_bm PySem.F.plainAttrs_list PySem.F.slot_list_append PySem.F.type_list_append mt_append (pv 3) (pa_cons (pe_ix ix_seq (pe_lst (pa_cons (pe_ix ix_seq (pv 5) pe_int (fun _ _ => rfl)) (pa_cons (pe_ix ix_seq (pv 5) (pe_un un_neg pe_int) (fun _ _ => rfl)) pa_nil))) (pv 2) (fun _ _ => rfl)) pa_nil))))
      pss_nil))))
      (pss_one (ps_ret (pv 3))))), ?_⟩)
  apply VL.wvI
  · intro B; walk_at "vi"
  · intro ts Qv Xv h
    obtain ⟨ss, lo, hi, z, rfl, so, l1, l2, m1, m2, k⟩ := h
    have s6 := so.1
    have ll : (lens lo hi).length ≤ 60 := by unfold lens; rw [List.length_map, List.length_range]; omega
    rw [rows_pk] at k
    walk_at "V"
    rw [lens_rng]
    refine for_mapF (β := List Rw) (fun γ s => ((γ.put 0 (.mu (.lst (s.map tR)))).unset 4).unset 5) (fun i s => s = ((lens lo hi).take i).filterMap fun n => pk z (prs ss n)) (Nx.mk [] (by walk_at "le") (by rw [List.take_zero]; rfl)) ?_ ?_
    · rintro i n rs hn rfl
      have il := (List.getElem?_eq_some_iff.mp hn).1
      obtain ⟨n1, n2⟩ := mem_lens.mp (List.mem_of_getElem? hn)
      have rl := List.length_filterMap_le (fun n => pk z (prs ss n)) ((lens lo hi).take i)
      rw [List.length_take] at rl
      have rl : (((lens lo hi).take i).filterMap fun n => pk z (prs ss n)).length ≤ 60 := by omega
      generalize hrs : (((lens lo hi).take i).filterMap fun n => pk z (prs ss n)) = rs at rl
      have nx : ∀ o, pk z (prs ss n) = o → (((lens lo hi).take (i + 1)).filterMap fun n => pk z (prs ss n)) = rs ++ o.toList := fun o e => by
        rw [XR.take_one hn, List.filterMap_append, hrs]
        congr 1
        rw [List.filterMap_cons, e]
        cases o <;> rfl
      walk_at "V"
      refine ⟨ss, n, rfl, so, by omega, by omega, ?_⟩
      have okp : okD (.lst ((prs ss n).map tR)) = true := encR.list.ok (by decide) _
      walk_at "V"
      rcases List.eq_nil_or_concat (prs ss n) with e | ⟨l, x, e⟩
      · rw [e]
        walk_at "V"
        exact Nx.mk rs (by walk_at "le") (by rw [nx none (by rw [e]; cases z <;> rfl)]; exact (List.append_nil _).symm)
      · rw [List.concat_eq_append] at e
        obtain ⟨y, l2, e2⟩ : ∃ y l2, prs ss n = y :: l2 := by
          rw [e]
          cases l with
          | nil => exact ⟨x, [], rfl⟩
          | cons y l => exact ⟨y, l ++ [x], rfl⟩
        have la : atL ((prs ss n).map tR) (-1) = some (tR x) := by rw [e, List.map_append]; exact atL_last _ _
        have l0 : atL ((prs ss n).map tR) 0 = some (tR y) := by rw [e2]; rfl
        have ne : ((prs ss n).map tR).isEmpty = false := by rw [e2]; rfl
        rw [ne]
        cases z
        · walk_at "V"
          exact Nx.mk (rs ++ [y]) (by rw [List.map_append]; walk_at "le") (nx (some y) (by rw [e2]; rfl)).symm
        · walk_at "V"
          exact Nx.mk (rs ++ [x]) (by rw [List.map_append]; walk_at "le") (nx (some x) (by rw [e]; exact List.getLast?_concat)).symm
    rintro rs rfl
    rw [List.take_length]
    walk_at "V"
    exact k
def spSz : VSp := fun vs Q _ => ∃ rs : List Rw, vs = [tL rs] ∧ rs.length ≤ 200 ∧ Q (.new (.lst ((rs.map Prod.fst).map VL.T.int))) []
theorem sc__law_sizes : FnScope ["_law_rows_here", "_law_row"] ["_law_rows_here"] (defScope s__law_sizes) := ⟨rfl, rfl, rfl, by decide +kernel, rfl, by decide +kernel, by decide +kernel⟩
theorem ok__law_sizes (T : Txt K mg D) : FnOk P w K mg base CX0 1 D.a__law_sizes D.d__law_sizes ["_law_rows_here"] (vsp K [false] spSz) := by
  refine VL.okV T.F__law_sizes sc__law_sizes rfl (by decide) (fun cdv A outer s H E hr => have hu := VL.huR hr; ⟨_, (pss_one (ps_ret (pe_lc (own := [("_law_row", 1)]) (g := (gName 1)) (tt := tYes) (by rfl) sc__law_sizes.nd (VL.pi_dyn (pv 0)) (blkOk_by (own := [("_law_row", 1)]) (N := ["_law_rows_here", "_law_row"]) (sc := defScope s__law_sizes) (by decide +kernel)) (fun _ _ _ _ _ => (pg_name (i := 1) sc__law_sizes.nd rfl (Or.inl rfl))) (fun _ _ _ _ _ => pts_nil) (fun _ _ _ _ _ => (pe_ix (VL.ix_seqK (K := K) rfl) (pv 1) pe_int (fun _ _ => rfl)))))), ?_⟩)
  apply VL.wvI
  · intro B; walk_at "vi"
  · intro ts Qv Xv h
    obtain ⟨rs, rfl, hr, k⟩ := h
    have em : ∀ l : List Rw, (l.map fun r => VL.T.int r.1) = (l.map Prod.fst).map VL.T.int := fun l => by rw [List.map_map]; rfl
    walk_at "V"
    refine lc_map (fun r => VL.T.int r.1) (fun i r out hr ol => ?_) ?_
    · walk_at "V"
      exact NL.mk _ (by walk_at "le") rfl
    rw [em]
    walk_at "V"
    exact k
def spJd : VSp := fun vs Q _ => ∃ (ss : List Sg) (lo hi : Int) (rs : List Rw), vs = [tSs ss, .lst (((rowsF ss lo hi).map Prod.fst).map VL.T.int), tL rs] ∧ SOk ss ∧ 1 ≤ lo ∧ hi ≤ 60 ∧ rs.length ≤ 200 ∧ Q (.val (.bl (judg ss lo hi rs))) []
theorem sc__law_judged : FnScope ["_law_sightings_here", "_law_sizes_here", "_law_rows_here", "_law_row"] ["_law_sightings_here", "_law_sizes_here", "_law_rows_here"] (defScope s__law_judged) := ⟨rfl, rfl, rfl, by decide +kernel, rfl, by decide +kernel, by decide +kernel⟩
theorem ok__law_judged (T : Txt K mg D) : FnOk P w K mg base CX0 3 D.a__law_judged D.d__law_judged ["_law_sightings_here", "_law_sizes_here", "_law_rows_here"] (vsp K [false, false, false] spJd) := by
  have G__law_fits := ok__law_fits (P := P) (w := w) (base := base) T
  have G__law_sizes := ok__law_sizes (P := P) (w := w) (base := base) T
  refine VL.okV T.F__law_judged sc__law_judged rfl (by decide) (fun cdv A outer s H E hr => have hu := VL.huR hr; ⟨_, (pss_cons (ps_if (pt_cmpR (op_neD (VL.hu64 hu)) (pe_call G__law_sizes (hr.mono (by decide)) (by rfl) T.g__law_sizes T.F__law_sizes.kp T.b__law_sizes .nil pass0 (pa_cons (pv 2) pa_nil)) (pv 1) (nomark _))
      (pss_one (ps_ret pe_bl))
      pss_nil)
      (pss_cons (ps_for PassesOwn.never rfl (VL.pi_dyn (pv 2)) (pg_name (i := 3) sc__law_judged.nd rfl (Or.inl rfl))
      (pss_one (ps_if (pt_not (pt_val (pe_call G__law_fits (hr.mono (by decide)) (by rfl) T.g__law_fits T.F__law_fits.kp T.b__law_fits .nil pass0 (pa_cons (pv 0) (pa_cons (pe_ix ix_seq (pv 3) pe_int (fun _ _ => rfl)) (pa_cons (pe_ix ix_seq (pv 3) pe_int (fun _ _ => rfl)) (pa_cons (pe_ix ix_seq (pv 3) pe_int (fun _ _ => rfl)) pa_nil)))))))
      (pss_one (ps_ret pe_bl))
      pss_nil)))
      (pss_one (ps_ret pe_bl)))), ?_⟩)
  apply VL.wvI
  · intro B; walk_at "vi"
  · intro ts Qv Xv h
    obtain ⟨ss, lo, hi, rs, rfl, so, l1, m2, hr, k⟩ := h
    walk_at "V"
    rw [encInt.list.eq]
    by_cases e : rs.map Prod.fst = (rowsF ss lo hi).map Prod.fst
    · rw [decide_eq_true e]
      have ej : judg ss lo hi rs = okRows ss rs := by unfold judg; rw [decide_eq_true e]; rfl
      rw [ej] at k
      walk_at "V"
      refine for_mapF (β := Unit) (fun γ _ => γ.unset 3) (fun i _ => ∀ r ∈ rs.take i, ftI ss r.1 r.2.1 r.2.2 = true) (Nx.mk () (by walk_at "le") (fun r h => by rw [List.take_zero] at h; cases h)) ?_ ?_
      · rintro i r _ hr2 ok
        have hn := size_lens (ss := ss) (lo := lo) (hi := hi) (n := r.1) (e ▸ List.mem_map.mpr ⟨r, List.mem_of_getElem? hr2, rfl⟩)
        walk_at "V"
        refine ⟨ss, r.1, _, _, rfl, so, by omega, by omega, ?_⟩
        cases hf : ftI ss r.1 r.2.1 r.2.2 with
        | true =>
          walk_at "V"
          refine Nx.mk () (by walk_at "le") fun q hq => ?_
          rw [XR.take_one hr2] at hq
          rcases List.mem_append.mp hq with h | h
          · exact ok q h
          · rw [List.mem_singleton.mp h]; exact hf
        | false =>
          have eo : okRows ss rs = false := by
            cases q : okRows ss rs with
            | false => rfl
            | true =>
              unfold okRows at q
              have := List.all_eq_true.mp q r (List.mem_of_getElem? hr2)
              rw [hf] at this
              cases this
          rw [eo] at k
          walk_at "V"
          exact k
      · rintro _ ok
        rw [List.take_length] at ok
        have eo : okRows ss rs = true := List.all_eq_true.mpr ok
        rw [eo] at k
        walk_at "V"
        exact k
    · rw [decide_eq_false e]
      have ej : judg ss lo hi rs = false := by unfold judg; rw [decide_eq_false e]; rfl
      rw [ej] at k
      walk_at "V"
      exact k
def cutR (rs : List Rw) (lo hi : Option Int) : List Rw := (rs.drop (HT.sIx rs.length 0 lo)).take (HT.sIx rs.length rs.length hi - HT.sIx rs.length 0 lo)
theorem cutR_map (rs : List Rw) (lo hi : Option Int) : cutT (rs.map tR) lo hi = (cutR rs lo hi).map tR := by
  unfold cutT cutR
  rw [List.length_map, List.map_take, List.map_drop]
theorem cutR_len (rs : List Rw) (lo hi : Option Int) : (cutR rs lo hi).length ≤ rs.length := by
  unfold cutR
  rw [List.length_take, List.length_drop]
  omega
def spSpo : VSp := fun vs Q _ => ∃ (rs : List Rw) (at_ ix far : Int), vs = [tL rs, .int at_, .int ix, .int far] ∧ 0 ≤ at_ ∧ at_ < (rs.length : Int) ∧ rs.length ≤ 60 ∧ (ix.natAbs < 2 ^ 60 ∧ far.natAbs < 2 ^ 60) ∧ ∀ out : List (List Rw), out.length = 12 → (∀ l ∈ out, l.length ≤ 200) → Q (.new (.lst (out.map tL))) []
theorem sc__law_spoilt : FnScope ["_law_rows_here", "_law_at", "_law_index", "_law_far", "_law_row", "_law_head", "_law_tail", "_law_turned"] ["_law_rows_here", "_law_at", "_law_index", "_law_far"] (defScope s__law_spoilt) := ⟨rfl, rfl, rfl, by decide +kernel, rfl, by decide +kernel, by decide +kernel⟩
theorem ok__law_spoilt (T : Txt K mg D) : FnOk P w K mg base CX0 1 D.a__law_spoilt D.d__law_spoilt ["_law_rows_here", "_law_at", "_law_index", "_law_far"] (vsp K [false, false, false, false] spSpo) := by
  refine VL.okV T.F__law_spoilt sc__law_spoilt rfl (by decide) (fun cdv A outer s H E hr => have hu := VL.huR hr; ⟨_, (pss_cons (ps_set (i := 4) sc__law_spoilt.nd rfl (Or.inl rfl) (pe_ix ix_seq (pv 0) (pv 1) (fun _ _ => rfl)))
      (pss_cons (ps_set (i := 5) sc__law_spoilt.nd rfl (Or.inl rfl) (pe_slice VL.sl_any (pv 0) po_none (po_some (pv 1))))
      (pss_cons (ps_set (i := 6) sc__law_spoilt.nd rfl (Or.inl rfl) (pe_slice VL.sl_any (pv 0) (po_some (pe_op VL.op_addU (pv 1) pe_int)) po_none))
      (pss_cons (ps_set (i := 7) sc__law_spoilt.nd rfl (Or.inl rfl) (pe_op VL.op_addU (pe_op VL.op_addU (pe_slice VL.sl_any (pv 6) po_none (po_some pe_int)) (pe_lst (pa_cons (pv 4) pa_nil))) (pe_slice VL.sl_any (pv 6) (po_some pe_int) po_none)))
      (pss_one (ps_ret (pe_lst (pa_cons (pe_op VL.op_addU (pv 5) (pv 6)) (pa_cons (pe_op VL.op_addU (pe_op VL.op_addU (pv 5) (pe_lst (pa_cons (pv 4) (pa_cons (pv 4) pa_nil)))) (pv 6)) (pa_cons (pe_op VL.op_addU (pv 5) (pv 7)) (pa_cons (pe_op VL.op_addU (pe_op VL.op_addU (pv 5) (pe_lst (pa_cons (pe_tup (pa_cons (pe_ix ix_seq (pv 4) pe_int (fun _ _ => rfl)) (pa_cons (pe_ix ix_seq (pv 4) pe_int (fun _ _ => rfl)) (pa_cons (pe_ix ix_seq (pv 4) pe_int (fun _ _ => rfl)) pa_nil)))) pa_nil))) (pv 6)) (pa_cons (pe_op VL.op_addU (pe_op VL.op_addU (pv 5) (pe_lst (pa_cons (pe_tup (pa_cons (pe_ix ix_seq (pv 4) pe_int (fun _ _ => rfl)) (pa_cons (pv 2) (pa_cons (pe_ix ix_seq (pv 4) pe_int (fun _ _ => rfl)) pa_nil)))) pa_nil))) (pv 6)) (pa_cons (pe_op VL.op_addU (pe_op VL.op_addU (pv 5) (pe_lst (pa_cons (pe_tup (pa_cons (pe_ix ix_seq (pv 4) pe_int (fun _ _ => rfl)) (pa_cons (pe_ix ix_seq (pv 4) pe_int (fun _ _ => rfl)) (pa_cons (pv 2) pa_nil)))) pa_nil))) (pv 6)) (pa_cons (pe_op VL.op_addU (pe_op VL.op_addU (pv 5) (pe_lst (pa_cons (pe_tup (pa_cons (pe_ix ix_seq (pv 4) pe_int (fun _ _ => rfl)) (pa_cons (pv 2) (pa_cons (pv 2) pa_nil)))) pa_nil))) (pv 6)) (pa_cons (pe_op VL.op_addU (pe_op VL.op_addU (pv 5) (pe_lst (pa_cons (pe_tup (pa_cons (pe_op VL.op_addU (pe_ix ix_seq (pv 4) pe_int (fun _ _ => rfl)) pe_int) (pa_cons (pe_ix ix_seq (pv 4) pe_int (fun _ _ => rfl)) (pa_cons (pe_ix ix_seq (pv 4) pe_int (fun _ _ => rfl)) pa_nil)))) pa_nil))) (pv 6)) (pa_cons (pe_op VL.op_addU (pe_op VL.op_addU (pv 5) (pe_lst (pa_cons (pe_tup (pa_cons (pv 3) (pa_cons (pe_ix ix_seq (pv 4) pe_int (fun _ _ => rfl)) (pa_cons (pe_ix ix_seq (pv 4) pe_int (fun _ _ => rfl)) pa_nil)))) pa_nil))) (pv 6)) (pa_cons (pe_op VL.op_addU (pe_op VL.op_addU (pv 5) (pe_lst (pa_cons (pe_tup (pa_cons (pe_ix ix_seq (pv 4) pe_int (fun _ _ => rfl)) (pa_cons (pv 3) (pa_cons (pv 3) pa_nil)))) pa_nil))) (pv 6)) (pa_cons (pe_op VL.op_addU (pe_op VL.op_addU (pv 5) (pe_lst (pa_cons (pe_tup (pa_cons (pe_ix ix_seq (pv 4) pe_int (fun _ _ => rfl)) (pa_cons (pe_ix ix_seq (pv 4) pe_int (fun _ _ => rfl)) (pa_cons (pv 3) pa_nil)))) pa_nil))) (pv 6)) (pa_cons (pe_lst pa_nil) pa_nil))))))))))))))))))), ?_⟩)
  apply VL.wvI
  · intro B; walk_at "vi"
  · intro ts Qv Xv h
    obtain ⟨rs, at_, ix, far, rfl, a0, a1, hr, hb, k⟩ := h
    obtain ⟨r, hr1, er⟩ := at_map (f := tR) (xs := rs) (i := at_) a0 a1
    walk_at "V"
    rw [cutR_map rs none (some at_), cutR_map rs (some (at_ + 1)) none]
    have hl := cutR_len rs none (some at_)
    have tl := cutR_len rs (some (at_ + 1)) none
    generalize cutR rs none (some at_) = hd at hl ⊢
    generalize cutR rs (some (at_ + 1)) none = td at tl ⊢
    rw [cutR_map td none (some 1)]
    have c1 := cutR_len td none (some 1)
    generalize cutR td none (some 1) = t1 at c1 ⊢
    walk_at "V"
    rw [cutR_map td (some 1) none]
    have c2 := cutR_len td (some 1) none
    generalize cutR td (some 1) none = t2 at c2 ⊢
    repeat (walk_at "w"; refine And.intro (by walk_at "vs") ?_; try (walk_at "n"))
    have kk := k [hd ++ td, hd ++ [r, r] ++ td, hd ++ (t1 ++ [r] ++ t2), hd ++ [(r.1, r.2.2, r.2.1)] ++ td, hd ++ [(r.1, ix, r.2.2)] ++ td, hd ++ [(r.1, r.2.1, ix)] ++ td, hd ++ [(r.1, ix, ix)] ++ td, hd ++ [(r.1 + 1, r.2.1, r.2.2)] ++ td, hd ++ [(far, r.2.1, r.2.2)] ++ td, hd ++ [(r.1, far, far)] ++ td, hd ++ [(r.1, r.2.1, far)] ++ td, []] rfl (fun l hl => by
      simp only [List.mem_cons, List.not_mem_nil, or_false] at hl
      rcases hl with h | h | h | h | h | h | h | h | h | h | h | h <;> rw [h] <;> simp only [List.length_append, List.length_cons, List.length_nil] <;> omega)
    simp only [List.map_cons, List.map_nil, tL, List.map_append] at kk
    exact kk
def spIsT (D : Ad) : VSp := fun vs Q _ => ∃ rs : List Rw, vs = [tTab D rs, tL rs] ∧ rs.length ≤ 200 ∧ Q (.val (.bl true)) []
theorem sc__law_is_table : FnScope ["_law_table", "_law_due", "_law_row", "_law_one"] ["_law_table", "_law_due"] (defScope s__law_is_table) := ⟨rfl, rfl, rfl, by decide +kernel, rfl, by decide +kernel, by decide +kernel⟩
theorem ok__law_is_table (T : Txt K mg D) : FnOk P w K mg base CX0 3 D.a__law_is_table D.d__law_is_table ["_law_table", "_law_due"] (vsp K [false, false] (spIsT D)) := by
  have G__law_is_number := ok__law_is_number (P := P) (w := w) (base := base) T
  refine VL.okV T.F__law_is_table sc__law_is_table rfl (by decide) (fun cdv A outer s H E hr => have hu := VL.huR hr; ⟨_, (pss_cons (ps_if (PW.pt (pw_or (pt_not (pt_val (pe_callB call_isi (by rfl) T.n_isinstance (by decide +kernel) (pa_cons (pv 0) (pa_cons (pe_glob (v := .ref D.c_RemainderTable) (by rfl) T.g_RemainderTable rfl) pa_nil))))) (pw_or1 (pt_not (pt_val (pe_callB call_isi (by rfl) T.n_isinstance (by decide +kernel) (pa_cons (pe_fld (pv 0) rfl) (pa_cons (pe_bltn (v := .ty "tuple") (u := .type "tuple") (by rfl) T.n_tuple (by decide +kernel) rfl) pa_nil))))))))
      (pss_one (ps_ret pe_bl))
      pss_nil)
      (pss_cons (ps_for PassesOwn.never rfl (VL.pi_dyn (pe_fld (pv 0) rfl)) (pg_name (i := 2) sc__law_is_table.nd rfl (Or.inl rfl))
      (pss_cons (ps_if (PW.pt (pw_or (pt_not (pt_val (pe_callB call_isi (by rfl) T.n_isinstance (by decide +kernel) (pa_cons (pv 2) (pa_cons (pe_bltn (v := .ty "tuple") (u := .type "tuple") (by rfl) T.n_tuple (by decide +kernel) rfl) pa_nil))))) (pw_or1 (pt_cmpR (op_neD (VL.hu64 hu)) (pe_callB VL.call_lenU (by rfl) T.n_len (by decide +kernel) (pa_cons (pv 2) pa_nil)) pe_int (nomark _)))))
      (pss_one (ps_ret pe_bl))
      pss_nil)
      (pss_one (ps_if (pt_not (pt_val (pe_callB (cr_all rfl) (by rfl) T.n_all (by decide +kernel) (pa_cons (pe_lc (own := [("_law_one", 3)]) (g := (gName 3)) (tt := tYes) (by rfl) sc__law_is_table.nd (VL.pi_dyn (pv 2)) (blkOk_by (own := [("_law_one", 3)]) (N := ["_law_table", "_law_due", "_law_row", "_law_one"]) (sc := defScope s__law_is_table) (by decide +kernel)) (fun _ _ _ _ _ => (pg_name (i := 3) sc__law_is_table.nd rfl (Or.inl rfl))) (fun _ _ _ _ _ => pts_nil) (fun _ _ _ _ _ => (pe_call G__law_is_number (hr.mono (by decide)) (by rfl) T.g__law_is_number T.F__law_is_number.kp T.b__law_is_number .nil pass0 (pa_cons (pv 3) pa_nil)))) pa_nil))))
      (pss_one (ps_ret pe_bl))
      pss_nil))))
      (pss_one (ps_ret (pe_cmpR (op_eqD (VL.hu64 hu)) (pe_callTy VL.call_listU (by rfl) T.n_list (by decide +kernel) (pa_cons (pe_fld (pv 0) rfl) pa_nil)) (pv 1) (nomark _)))))), ?_⟩)
  apply VL.wvI
  · intro B; walk_at "vi"
  · intro ts Qv Xv h
    obtain ⟨rs, rfl, hr, k⟩ := h
    have okr : okD (.lst (rs.map tR)) = true := encR.list.ok (by decide) _
    walk_at "V"
    refine for_mapF (β := Unit) (fun γ _ => γ.unset 2) (fun i _ => True) (Nx.mk () (by walk_at "le") trivial) ?_ ?_
    · rintro i r _ hr2 _
      walk_at "V"
      refine lc_map (xs := [r.1, r.2.1, r.2.2]) (f := VL.T.int) (fun _ => VL.T.bl true) (fun i n out hn ol => ?_) ?_
      · have ol : out.length < 3 := ol
        walk_at "V"
        exact NL.mk _ (by walk_at "le") rfl
      walk_at "V"
      refine ⟨[true, true, true], rfl, ?_⟩
      walk_at "V"
      refine Nx.mk () ?_ trivial
      exact VL.Le.to rfl (Nat.le_of_ble_eq_true rfl)
    rintro _ _
    walk_at "V"
    have e : eqT (.lst (rs.map tR)) (tL rs) = true := (encR.list.eq _ _).trans (decide_eq_true rfl)
    rw [e]
    exact k
def spSay : VSpF := fun vs Q => ∃ a b : Bool, vs = [.bl a, .bl b] ∧ Q (.bl (decide (a = b)))
theorem sc__law_says : FnScope ["_law_told", "_law_due"] ["_law_told", "_law_due"] (defScope s__law_says) := ⟨rfl, rfl, rfl, by decide +kernel, rfl, by decide +kernel, by decide +kernel⟩
theorem okv__law_says (T : Txt K mg D) : FnOk P w K mg base CX0 1 D.a__law_says D.d__law_says ["_law_told", "_law_due"] (vsp K (VL.falses 2) (VL.ofF spSay)) := by
  refine VL.okV T.F__law_says sc__law_says rfl (by decide) (fun cdv A outer s H E hr => have hu := VL.huR hr; ⟨_, (pss_one (ps_ret (pe_and (pe_callB call_isi (by rfl) T.n_isinstance (by decide +kernel) (pa_cons (pv 0) (pa_cons (pe_bltn (v := .ty "bool") (u := .type "bool") (by rfl) T.n_bool (by decide +kernel) rfl) pa_nil))) (pe_one (pe_cmpR (op_eqD (VL.hu64 hu)) (pv 0) (pv 1) (nomark _)))))), ?_⟩)
  apply VL.wvI
  · intro B; walk_at "vi"
  · intro ts Qv Xv h
    obtain ⟨Q0, ⟨a, b, rfl, k⟩, kq⟩ := h
    walk_at "V"
    have e : nb false (decide (a = b)) = decide (a = b) := by cases decide (a = b) <;> rfl
    rw [e]
    exact kq _ rfl k
theorem ok__law_says (T : Txt K mg D) : FnOk P w K mg base CX0 1 D.a__law_says D.d__law_says ["_law_told", "_law_due"] (vspF K spSay) := VL.okF (okv__law_says T) (fun ts Q h => by obtain ⟨a, b, rfl, _⟩ := h; rfl)
theorem judg_ok {ss : List Sg} {lo hi : Int} : judg ss lo hi (rowsF ss lo hi) = true ∧ judg ss lo hi (rowsL ss lo hi) = true := by
  unfold judg
  rw [sizes_eq, decide_eq_true rfl, ok_rows.1, ok_rows.2]
  exact ⟨rfl, rfl⟩
def spAsk : VSp := fun vs Q _ => ∃ (ss : List Sg) (lo hi : Int) (rs : List Rw), vs = [tSs ss, tSs ss, .tup [.int lo, .int hi], .lst (((rowsF ss lo hi).map Prod.fst).map VL.T.int), tL rs] ∧ SOk ss ∧ 1 ≤ lo ∧ lo ≤ 60 ∧ 1 ≤ hi ∧ hi ≤ 60 ∧ rs.length ≤ 200 ∧ Q (.val (.bl true)) []
theorem sc__law_asked : FnScope ["_law_given", "_law_sightings_here", "_law_bounds_here", "_law_sizes_here", "_law_rows_here", "_law_table", "_law_told"] ["_law_given", "_law_sightings_here", "_law_bounds_here", "_law_sizes_here", "_law_rows_here"] (defScope s__law_asked) := ⟨rfl, rfl, rfl, by decide +kernel, rfl, by decide +kernel, by decide +kernel⟩
theorem ok__law_asked (T : Txt K mg D) : FnOk P w K mg base CX0 17 D.a__law_asked D.d__law_asked ["_law_given", "_law_sightings_here", "_law_bounds_here", "_law_sizes_here", "_law_rows_here"] (vsp K [false, false, false, false, false] spAsk) := by
  have G__law_says := ok__law_says (P := P) (w := w) (base := base) T
  have G__law_judged := ok__law_judged (P := P) (w := w) (base := base) T
  have G_judge_table := ok_judge_table (P := P) (w := w) (base := base) T
  have G_RemainderTable_init := ok_RemainderTable_init (P := P) (w := w) (base := base) T
  refine VL.okV T.F__law_asked sc__law_asked rfl (by decide) (fun cdv A outer s H E hr => have hu := VL.huR hr; ⟨_, (pss_cons (ps_set (i := 5) sc__law_asked.nd rfl (Or.inl rfl) (pe_make (T_mk_RemainderTable T) G_RemainderTable_init (hr.mono (by decide)) (by rfl) T.g_RemainderTable T.b_RemainderTable_init .nil pass0 (pa_cons (pe_callTy VL.call_tupU (by rfl) T.n_tuple (by decide +kernel) (pa_cons (pv 4) pa_nil)) pa_nil)))
      (pss_cons (ps_set (i := 6) sc__law_asked.nd rfl (Or.inl rfl) (pe_call G_judge_table (hr.mono (by decide)) (by rfl) T.g_judge_table T.F_judge_table.kp T.b_judge_table .nil pass0 (pa_cons (pv 0) (pa_cons (pe_ix ix_seq (pv 2) pe_int (fun _ _ => rfl)) (pa_cons (pe_ix ix_seq (pv 2) pe_int (fun _ _ => rfl)) (pa_cons (pv 5) pa_nil))))))
      (pss_one (ps_ret (pe_call G__law_says (hr.mono (by decide)) (by rfl) T.g__law_says T.F__law_says.kp T.b__law_says .nil pass0 (pa_cons (pv 6) (pa_cons (pe_call G__law_judged (hr.mono (by decide)) (by rfl) T.g__law_judged T.F__law_judged.kp T.b__law_judged .nil pass0 (pa_cons (pv 1) (pa_cons (pv 3) (pa_cons (pv 4) pa_nil)))) pa_nil))))))), ?_⟩)
  apply VL.wvI
  · intro B; walk_at "vi"
  · intro ts Qv Xv h
    obtain ⟨ss, lo, hi, rs, rfl, so, l1, l2, m1, m2, hr, k⟩ := h
    walk_at "V"
    refine ⟨false, rs, rfl, by omega, ?_⟩
    walk_at "V"
    refine ⟨ss, lo, hi, rs, rfl, so, l1, l2, m1, m2, hr, ?_⟩
    walk_at "V"
    refine ⟨ss, lo, hi, rs, rfl, so, l1, m2, hr, ?_⟩
    walk_at "V"
    refine ⟨_, _, rfl, ?_⟩
    rw [decide_eq_true rfl]
    walk_at "V"
    exact k
def spGd : VSp := fun vs Q _ => ∃ (ss : List Sg) (lo hi : Int), vs = [tSs ss, tSs ss, .tup [.int lo, .int hi], tL (rowsF ss lo hi)] ∧ SOk ss ∧ 1 ≤ lo ∧ lo ≤ 60 ∧ 1 ≤ hi ∧ hi ≤ 60 ∧ Q (.val (.bl true)) []
theorem sc__law_good : FnScope ["_law_given", "_law_sightings_here", "_law_bounds_here", "_law_rows_here", "_law_table", "_law_kept", "_law_greatest"] ["_law_given", "_law_sightings_here", "_law_bounds_here", "_law_rows_here"] (defScope s__law_good) := ⟨rfl, rfl, rfl, by decide +kernel, rfl, by decide +kernel, by decide +kernel⟩
theorem ok__law_good (T : Txt K mg D) : FnOk P w K mg base CX0 17 D.a__law_good D.d__law_good ["_law_given", "_law_sightings_here", "_law_bounds_here", "_law_rows_here"] (vsp K [false, false, false, false] spGd) := by
  have G2_RemainderTable_init := ok2_RemainderTable_init (P := P) (w := w) (base := base) T
  have G__law_is_table := ok__law_is_table (P := P) (w := w) (base := base) T
  have G__law_says := ok__law_says (P := P) (w := w) (base := base) T
  have G_judge_table := ok_judge_table (P := P) (w := w) (base := base) T
  have G__law_rows := ok__law_rows (P := P) (w := w) (base := base) T
  have G_shut_lengths := ok_shut_lengths (P := P) (w := w) (base := base) T
  refine VL.okV T.F__law_good sc__law_good rfl (by decide) (fun cdv A outer s H E hr => have hu := VL.huR hr; ⟨_, (pss_cons (ps_set (i := 4) sc__law_good.nd rfl (Or.inl rfl) (pe_call G_shut_lengths (hr.mono (by decide)) (by rfl) T.g_shut_lengths T.F_shut_lengths.kp T.b_shut_lengths .nil pass0 (pa_cons (pv 0) (pa_cons (pe_ix ix_seq (pv 2) pe_int (fun _ _ => rfl)) (pa_cons (pe_ix ix_seq (pv 2) pe_int (fun _ _ => rfl)) pa_nil)))))
      (pss_cons (ps_if (pt_not (pt_val (pe_call G__law_is_table (hr.mono (by decide)) (by rfl) T.g__law_is_table T.F__law_is_table.kp T.b__law_is_table .nil pass0 (pa_cons (pv 4) (pa_cons (pv 3) pa_nil)))))
      (pss_one (ps_ret pe_bl))
      pss_nil)
      (pss_cons (ps_if (pt_not (pt_val (pe_call G__law_says (hr.mono (by decide)) (by rfl) T.g__law_says T.F__law_says.kp T.b__law_says .nil pass0 (pa_cons (pe_call G_judge_table (hr.mono (by decide)) (by rfl) T.g_judge_table T.F_judge_table.kp T.b_judge_table .nil pass0 (pa_cons (pv 0) (pa_cons (pe_ix ix_seq (pv 2) pe_int (fun _ _ => rfl)) (pa_cons (pe_ix ix_seq (pv 2) pe_int (fun _ _ => rfl)) (pa_cons (pv 4) pa_nil))))) (pa_cons pe_bl pa_nil)))))
      (pss_one (ps_ret pe_bl))
      pss_nil)
      (pss_cons (ps_set (i := 5) sc__law_good.nd rfl (Or.inl rfl) (pe_call G__law_rows (hr.mono (by decide)) (by rfl) T.g__law_rows T.F__law_rows.kp T.b__law_rows .nil pass0 (pa_cons (pv 1) (pa_cons (pv 2) (pa_cons pe_int pa_nil)))))
      (pss_cons (ps_set (i := 6) sc__law_good.nd rfl (Or.inl rfl) (pe_make (T_mk_RemainderTable T) G2_RemainderTable_init (hr.mono (by decide)) (by rfl) T.g_RemainderTable T.b_RemainderTable_init .nil pass0 (pa_cons (pv 5) pa_nil)))
      (pss_cons (ps_expr (pe_bm0 PySem.F.plainAttrs_list PySem.F.slot_list_clear PySem.F.type_list_clear mt_clear (pv 5)))
      (pss_cons (ps_if (pt_not (pt_val (pe_call G__law_says (hr.mono (by decide)) (by rfl) T.g__law_says T.F__law_says.kp T.b__law_says .nil pass0 (pa_cons (pe_call G_judge_table (hr.mono (by decide)) (by rfl) T.g_judge_table T.F_judge_table.kp T.b_judge_table .nil pass0 (pa_cons (pv 0) (pa_cons (pe_ix ix_seq (pv 2) pe_int (fun _ _ => rfl)) (pa_cons (pe_ix ix_seq (pv 2) pe_int (fun _ _ => rfl)) (pa_cons (pv 6) pa_nil))))) (pa_cons pe_bl pa_nil)))))
      (pss_one (ps_ret pe_bl))
      pss_nil)
      (pss_one (ps_ret (pe_and (pe_call G__law_is_table (hr.mono (by decide)) (by rfl) T.g__law_is_table T.F__law_is_table.kp T.b__law_is_table .nil pass0 (pa_cons (pv 4) (pa_cons (pv 3) pa_nil))) (pe_one (pe_cmpR (op_eqD (VL.hu64 hu)) (pv 0) (pv 1) (nomark _))))))))))))), ?_⟩)
  apply VL.wvI
  · intro B; walk_at "vi"
  · intro ts Qv Xv h
    obtain ⟨ss, lo, hi, rfl, so, l1, l2, m1, m2, k⟩ := h
    obtain ⟨r1, r2⟩ := rows_len (ss := ss) l1 m2
    obtain ⟨j1, j2⟩ := judg_ok (ss := ss) (lo := lo) (hi := hi)
    walk_at "V"
    refine ⟨ss, lo, hi, rfl, so, l1, l2, m1, m2, ?_⟩
    walk_at "V"
    refine ⟨ss, lo, hi, rowsF ss lo hi, rfl, so, l1, l2, m1, m2, by omega, ?_⟩
    rw [j1]
    walk_at "V"
    refine ⟨_, _, rfl, ?_⟩
    walk_at "V"
    refine ⟨ss, lo, hi, true, rfl, so, l1, l2, m1, m2, ?_⟩
    rw [if_pos (rfl : true = true)]
    walk_at "V"
    refine ⟨ss, lo, hi, rowsL ss lo hi, rfl, so, l1, l2, m1, m2, by omega, ?_⟩
    rw [j2]
    walk_at "V"
    refine ⟨_, _, rfl, ?_⟩
    walk_at "V"
    have e : eqT (tSs ss) (tSs ss) = true := (encP.list.eq _ _).trans (decide_eq_true rfl)
    rw [e]
    exact k
end
end Toy
set_option Elab.async false
set_option linter.all false
set_option maxRecDepth 100000
set_option maxHeartbeats 4000000
set_option synthInstance.maxSize 1000000
set_option synthInstance.maxHeartbeats 4000000
namespace Toy
open PySem L2 XR VL
local macro_rules | `(tactic| walk_at "ne") => `(tactic| first | assumption | (apply Ne.symm; assumption) | exact XR.ne_fresh (by assumption) (by walk_at "hp") | exact Ne.symm (XR.ne_fresh (by assumption) (by walk_at "hp")))
local macro_rules | `(tactic| walk_at "hp") => `(tactic| first | assumption | exact upd_same | (refine Eq.trans (upd_ne ?_) ?_; (walk_at "ne"); walk_at "hp"))
local macro_rules | `(tactic| walk_at "sq") => `(tactic| first | walk_at "hp" | exact SqL.of (by walk_at "hp") | exact SqT.of (by walk_at "hp") | exact XR.SqT.same (by assumption) (by assumption) | exact XR.SqL.same (by assumption) (by assumption))
local macro_rules | `(tactic| walk_at "br") => `(tactic| (refine ite2 ?_ ?_ <;> intro hbr <;> (try simp only [decide_eq_true_eq, decide_eq_false_iff_not, V.int.injEq, V.bl.injEq, V.str.injEq, Bool.not_eq_true, Bool.not_eq_eq_eq_not, Bool.not_true, Bool.not_false, ne_eq, Int.reduceToNat, Int.reducePow, Int.reduceMul, Int.reduceAdd, Int.reduceSub, reduceCtorEq, not_true_eq_false, not_false_eq_true, Int.not_lt, Int.not_le] at hbr)))
local macro_rules | `(tactic| walk_at "side") => `(tactic| first
  | exact ⟨by decide, by decide, by decide⟩
  | exact .inl ⟨by decide, by decide⟩
  | exact .inr ⟨by decide, by decide⟩
  | exact XR.divw (by first | decide | omega) (by first | decide | omega)
  | (show (_ : Int) = _; first | rfl | omega)
  | (show (0 : Int) < _; first | decide | assumption | omega)
  | exact .inl ⟨by omega, by omega⟩
  | exact .inr ⟨by omega, by omega⟩
  | exact .inl (XR.cmul_mod (by decide))
  | exact XR.log_lt (by omega) (by omega)
  | decide
  | (rw [sizeLine_eq]; simp; done)
  | (show 2 ≤ sizeLine; decide) | (show 3 ≤ sizeLine; decide) | (show 4 ≤ sizeLine; decide) | (show 5 ≤ sizeLine; decide) | (show 6 ≤ sizeLine; decide) | (show 7 ≤ sizeLine; decide) | (show 1 ≤ sizeLine; decide) | (show 8 ≤ sizeLine; decide) | (show 0 ≤ sizeLine; decide))
local macro_rules | `(tactic| walk_at "rd1") => `(tactic| first
  | refine ⟨_, rfl, ?_⟩
  | refine ⟨_, _, rfl, rfl, ?_⟩
  | refine ⟨_, _, _, _, rfl, rfl, (by walk_at "sq"), rfl, ?_⟩
  | refine ⟨_, _, _, _, rfl, rfl, (by walk_at "hp"), (by walk_at "hp"), (by walk_at "side"), ?_⟩
  | refine ⟨_, _, rfl, .inl (by walk_at "sq"), ?_⟩
  | refine ⟨_, _, rfl, .inl ⟨(by walk_at "sq"), ?_⟩⟩
  | refine ⟨_, _, rfl, .inr (by walk_at "sq"), ?_⟩
  | refine ⟨_, _, _, _, _, rfl, (by walk_at "hp"), (by walk_at "cls"), (by walk_at "noat"), rfl, ?_⟩
  | refine ⟨_, _, _, _, rfl, rfl, (by walk_at "sq"), (by first | assumption | exact XR.at0 | exact XR.at1), ?_⟩
  | refine ⟨rfl, ?_⟩
  | refine And.intro (by walk_at "side") ?_
  | refine .inl ⟨_, rfl, ?_⟩
  | refine And.intro ⟨_, (by walk_at "sq")⟩ ?_
  | refine ⟨_, _, rfl, (by walk_at "sq"), ?_⟩
  | refine ⟨_, _, rfl, ?_⟩
  | refine .inr ⟨_, rfl, (by walk_at "side"), ?_⟩
  | refine ⟨_, _, _, rfl, (by walk_at "hp"), ?_⟩
  | refine iteT ?_
  | refine iteF ?_)
local macro_rules | `(tactic| walk_at "rd") => `(tactic| repeat (walk_at "rd1"))
local macro_rules | `(tactic| walk_at "nn") => `(tactic| (simp only [Int.reduceToNat, Int.reducePow, Int.reduceMul, Int.reduceAdd, Int.reduceSub, Int.reduceNeg]))
local macro_rules | `(tactic| walk_at "dr") => `(tactic| repeat (first | refine And.intro (by first | assumption | walk_at "pre") ?_ | refine And.intro (by first | decide | omega) ?_))
local macro_rules | `(tactic| walk_at "vi") => `(tactic| ((try dsimp only [L2.cxOf, L2.Cx.nox, L2.Cx.wish, L2.Cx.blk, L2.Cx.suite, L2.Cx.tr, L2H.cxH, List.map_cons, List.map_nil]); (try simp only [List.map_cons, List.map_nil]); infer_instance))
local macro_rules | `(tactic| walk_at "w") => `(tactic| conv => whnf)
local macro_rules | `(tactic| walk_at "sz") => `(tactic| first
  | (show _ ≤ sizeLine; rw [sizeLine_eq]; first | decide | omega | (simp; done) | (simp; omega))
  | (show _ < sizeLine; rw [sizeLine_eq]; first | decide | omega | (simp; done) | (simp; omega)))
local macro_rules | `(tactic| walk_at "ok") => `(tactic| first
  | exact encInt.list.ok (by decide) _ | exact encInt.tupl.ok (by decide) _ | exact encStr.list.ok (by decide) _ | exact encStr.tupl.ok (by decide) _
  | exact (encInt.pair encInt).list.ok (by decide) _ | exact (encInt.pair encInt).ok (by decide) _ | exact (encStr.pair encStr).list.ok (by decide) _ | exact (encStr.pair encStr).ok (by decide) _
  | exact encInt.tupl.list.ok (by decide) _)
local macro_rules | `(tactic| walk_at "vs") => `(tactic| first
  | exact trivial
  | assumption
  | exact rfl
  | exact ⟨rfl, rfl⟩
  | walk_at "ok"
  | walk_at "sz"
  | exact .inl (.inr ⟨by decide, by decide⟩)
  | exact .inl (.inl ⟨by first | decide | omega, by first | decide | omega⟩)
  | exact .inl (.inr ⟨by first | decide | omega, by first | decide | omega⟩)
  | exact XR.divw (by first | decide | omega) (by first | decide | omega)
  | (show (0 : Int) < _; first | decide | omega)
  | exact ⟨by first | decide | omega, by first | decide | omega⟩
  | exact ⟨by first | decide | omega, by first | decide | omega, by first | decide | omega⟩
  | exact ⟨by walk_at "sz", by omega, by omega⟩
  | exact ⟨by walk_at "cls", by walk_at "noat"⟩
  | exact ⟨by walk_at "xf", by walk_at "xe"⟩
  | walk_at "exm"
  | decide
  | exact XR.log_lt (by omega) (by omega)
  | ((try dsimp only); (try simp only [List.length_map, List.length_append, List.length_cons, List.length_nil, List.length_eraseIdx]); omega))
local macro_rules | `(tactic| walk_at "v") => `(tactic| (walk_at "w"; (repeat ((first | refine And.intro (by walk_at "vs") ?_ | refine isS_i (by assumption) ?_); walk_at "w")); (try walk_at "n")))
local macro_rules | `(tactic| walk_at "isi") => `(tactic| first | refine ⟨_, VL.IsI.int_int _, ?_⟩ | refine ⟨_, VL.IsI.int_bool _, ?_⟩ | refine ⟨_, VL.IsI.int_str _, ?_⟩ | refine ⟨_, VL.IsI.int_list _, ?_⟩ | refine ⟨_, VL.IsI.int_tuple _, ?_⟩ | refine ⟨_, VL.IsI.bl_int _, ?_⟩ | refine ⟨_, VL.IsI.bl_bool _, ?_⟩ | refine ⟨_, VL.IsI.bl_str _, ?_⟩ | refine ⟨_, VL.IsI.str_str _, ?_⟩ | refine ⟨_, VL.IsI.str_int _, ?_⟩ | refine ⟨_, VL.IsI.str_bool _, ?_⟩ | refine ⟨_, VL.IsI.lst_list _, ?_⟩ | refine ⟨_, VL.IsI.lst_tuple _, ?_⟩ | refine ⟨_, VL.IsI.tup_list _, ?_⟩ | refine ⟨_, VL.IsI.tup_tuple _, ?_⟩ | refine ⟨_, VL.IsI.tup_str _, ?_⟩ | refine ⟨_, VL.IsI.tup_int _, ?_⟩ | refine ⟨_, VL.IsI.dk_dict _, ?_⟩ | refine ⟨_, VL.IsI.non_int, ?_⟩ | refine ⟨_, VL.IsI.non_tuple, ?_⟩ | refine ⟨_, VL.IsI.non_list, ?_⟩ | refine ⟨_, VL.IsI.non_str, ?_⟩)
local macro_rules | `(tactic| walk_at "V") => `(tactic| (walk_at "w"; (repeat ((first | refine And.intro (by walk_at "vs") ?_ | refine isS_i (by assumption) ?_ | refine Or.inr ?_ | walk_at "isi" | walk_at "eis" | refine ⟨_, rfl, ?_⟩); walk_at "w")); (try walk_at "n")))
set_option hygiene false
local macro_rules | `(tactic| walk_at "vb") => `(tactic| (refine br_i ?_ ?_ <;> intro hbr <;> (try simp only [nb, decide_eq_true_eq, decide_eq_false_iff_not, Bool.not_eq_true, Bool.not_eq_eq_eq_not, Bool.not_true, Bool.not_false, ne_eq, Bool.and_eq_true, Bool.or_eq_true, Bool.and_eq_false_imp, Decidable.not_not, Int.not_lt, Int.not_le, bne_iff_ne, Bool.not_eq_false, Bool.or_eq_false_iff, reduceCtorEq, not_true_eq_false, not_false_eq_true] at hbr)))
set_option hygiene true
local macro_rules | `(tactic| walk_at "le") => `(tactic| exact VL.Le.to rfl (Nat.le_of_ble_eq_true rfl))
local macro_rules | `(tactic| walk_at "d") => `(tactic| dsimp only at *)
local macro_rules | `(tactic| walk_at "n") => `(tactic| dsimp only [VL.env0, VL.slots0, VL.mem0, VL.nones, VL.falses, VL.put_mk, VL.push_mk, VL.set_mk, VL.unset_mk, VL.wipe_nl, VL.wipe_cs, VL.el_mk, VL.ed_mk, VL.es_mk, VL.frs_nl, VL.frs_cs, VL.fr_mk, VL.frX, VL.frSl, VL.nth, Nat.reduceAdd, Nat.reduceSub, Nat.reduceMul, Nat.reduceBEq, List.set, List.length_cons, List.length_nil, List.cons_append, List.nil_append, VL.qI, VL.qT, VL.qR])
local macro_rules | `(tactic| walk_at "cls") => `(tactic| first | exact T_cl_RemainderTable (by assumption))
local macro_rules | `(tactic| walk_at "noat") => `(tactic| first | exact Txt.no_RemainderTable_rows (by assumption))
local macro_rules | `(tactic| walk_at "eis") => `(tactic| first | fail)
local macro_rules | `(tactic| walk_at "exm") => `(tactic| first | fail)
local macro_rules | `(tactic| walk_at "xf") => `(tactic| first | fail)
local macro_rules | `(tactic| walk_at "xe") => `(tactic| first | fail)
local macro_rules | `(tactic| walk_at "isi") => `(tactic| first | refine ⟨_, VL.IsI.mk _ _ (.obj (fun _ _ _ _ e => T_ty_RemainderTable (by assumption) e)) (.cls _) (Txt.zo_RemainderTable_RemainderTable (by assumption)), ?_⟩ | refine ⟨_, VL.IsI.mk _ _ (.obj (fun _ _ _ _ e => T_ty_RemainderTable (by assumption) e)) (.ty _) (Txt.zo_RemainderTable_bool (by assumption)), ?_⟩ | refine ⟨_, VL.IsI.mk _ _ (.obj (fun _ _ _ _ e => T_ty_RemainderTable (by assumption) e)) (.ty _) (Txt.zo_RemainderTable_int (by assumption)), ?_⟩ | refine ⟨_, VL.IsI.mk _ _ (.obj (fun _ _ _ _ e => T_ty_RemainderTable (by assumption) e)) (.ty _) (Txt.zo_RemainderTable_list (by assumption)), ?_⟩ | refine ⟨_, VL.IsI.mk _ _ (.obj (fun _ _ _ _ e => T_ty_RemainderTable (by assumption) e)) (.ty _) (Txt.zo_RemainderTable_tuple (by assumption)), ?_⟩)
section
variable {P : Program} {w : World} {K : PySem.W.Frag} {mg : Str → Option Value} {base : Heap} {D : Ad}
def spTbs : VSp := fun vs Q _ => ∃ (ss : List Sg) (lo hi lo2 hi2 a b c : Int), vs = [tSs ss, tSs ss, .tup [.int lo, .int hi], .tup [.int lo2, .int hi2], .tup [.int a, .int b, .int c]] ∧ SOk ss ∧ (1 ≤ lo ∧ lo ≤ 60 ∧ 1 ≤ hi ∧ hi ≤ 60) ∧ (1 ≤ lo2 ∧ lo2 ≤ 60 ∧ 1 ≤ hi2 ∧ hi2 ≤ 60) ∧ (0 ≤ a ∧ a < 2 ^ 60 ∧ b.natAbs < 2 ^ 60 ∧ c.natAbs < 2 ^ 60) ∧ Q (.val (.bl true)) []
theorem sc__law_tables : FnScope ["_law_given", "_law_sightings_here", "_law_bounds_here", "_law_other", "_law_spoil", "_law_rows_here", "_law_sizes_here", "_law_wrong", "_law_one"] ["_law_given", "_law_sightings_here", "_law_bounds_here", "_law_other", "_law_spoil"] (defScope s__law_tables) := ⟨rfl, rfl, rfl, by decide +kernel, rfl, by decide +kernel, by decide +kernel⟩
theorem ok__law_tables (T : Txt K mg D) : FnOk P w K mg base CX0 19 D.a__law_tables D.d__law_tables ["_law_given", "_law_sightings_here", "_law_bounds_here", "_law_other", "_law_spoil"] (vsp K [false, false, false, false, false] spTbs) := by
  have G__law_good := ok__law_good (P := P) (w := w) (base := base) T
  have G__law_asked := ok__law_asked (P := P) (w := w) (base := base) T
  have G__law_spoilt := ok__law_spoilt (P := P) (w := w) (base := base) T
  have G__law_sizes := ok__law_sizes (P := P) (w := w) (base := base) T
  have G__law_rows := ok__law_rows (P := P) (w := w) (base := base) T
  refine VL.okV T.F__law_tables sc__law_tables rfl (by decide) (fun cdv A outer s H E hr => have hu := VL.huR hr; ⟨_, (pss_cons (ps_set (i := 5) sc__law_tables.nd rfl (Or.inl rfl) (pe_call G__law_rows (hr.mono (by decide)) (by rfl) T.g__law_rows T.F__law_rows.kp T.b__law_rows .nil pass0 (pa_cons (pv 1) (pa_cons (pv 2) (pa_cons pe_int pa_nil)))))
      (pss_cons (ps_set (i := 6) sc__law_tables.nd rfl (Or.inl rfl) (pe_call G__law_sizes (hr.mono (by decide)) (by rfl) T.g__law_sizes T.F__law_sizes.kp T.b__law_sizes .nil pass0 (pa_cons (pv 5) pa_nil)))
      (pss_cons (ps_if (pt_not (pt_val (pe_call G__law_good (hr.mono (by decide)) (by rfl) T.g__law_good T.F__law_good.kp T.b__law_good .nil pass0 (pa_cons (pv 0) (pa_cons (pv 1) (pa_cons (pv 2) (pa_cons (pv 5) pa_nil)))))))
      (pss_one (ps_ret pe_bl))
      pss_nil)
      (pss_cons (ps_if (pt_not (pt_val (pe_call G__law_asked (hr.mono (by decide)) (by rfl) T.g__law_asked T.F__law_asked.kp T.b__law_asked .nil pass0 (pa_cons (pv 0) (pa_cons (pv 1) (pa_cons (pv 3) (pa_cons (pe_call G__law_sizes (hr.mono (by decide)) (by rfl) T.g__law_sizes T.F__law_sizes.kp T.b__law_sizes .nil pass0 (pa_cons (pe_call G__law_rows (hr.mono (by decide)) (by rfl) T.g__law_rows T.F__law_rows.kp T.b__law_rows .nil pass0 (pa_cons (pv 1) (pa_cons (pv 3) (pa_cons pe_int pa_nil)))) pa_nil)) (pa_cons (pv 5) pa_nil))))))))
      (pss_one (ps_ret pe_bl))
      pss_nil)
      (pss_cons (ps_set (i := 7) sc__law_tables.nd rfl (Or.inl rfl) (pe_lst (pa_cons (pe_op VL.op_addU (pv 5) (pe_lst (pa_cons (pe_tup (pa_cons (pe_ix ix_seq (pv 2) pe_int (fun _ _ => rfl)) (pa_cons pe_int (pa_cons pe_int pa_nil)))) pa_nil))) (pa_cons (pe_op VL.op_addU (pv 5) (pe_lst (pa_cons (pe_tup (pa_cons pe_int (pa_cons pe_int (pa_cons pe_int pa_nil)))) pa_nil))) pa_nil))))
      (pss_cons (ps_if (pt_cmpR (op_neD (VL.hu64 hu)) (pv 5) (pe_lst pa_nil) (nomark _))
      (pss_one (ps_expr (pe_bm PySem.F.plainAttrs_list PySem.F.slot_list_extend PySem.F.type_list_extend mt_extend (pv 7) (pa_cons (pe_call G__law_spoilt (hr.mono (by decide)) (by rfl) T.g__law_spoilt T.F__law_spoilt.kp T.b__law_spoilt .nil pass0 (pa_cons (pv 5) (pa_cons (pe_op op_mod (pe_callTy VL.call_intU (by rfl) T.n_int (by decide +kernel) (pa_cons (pe_ix ix_seq (pv 4) pe_int (fun _ _ => rfl)) pa_nil)) (pe_callB VL.call_lenU (by rfl) T.n_len (by decide +kernel) (pa_cons (pv 5) pa_nil))) (pa_cons (pe_ix ix_seq (pv 4) pe_int (fun _ _ => rfl)) (pa_cons (pe_ix ix_seq (pv 4) pe_int (fun _ _ => rfl)) pa_nil))))) pa_nil))))
      pss_nil)
      (pss_cons (ps_for PassesOwn.never rfl (VL.pi_dynL (pv 7)) (pg_name (i := 8) sc__law_tables.nd rfl (Or.inl rfl))
      (pss_one (ps_if (pt_not (pt_val (pe_call G__law_asked (hr.mono (by decide)) (by rfl) T.g__law_asked T.F__law_asked.kp T.b__law_asked .nil pass0 (pa_cons (pv 0) (pa_cons (pv 1) (pa_cons (pv 2) (pa_cons (pv 6) (pa_cons (pv 8) pa_nil))))))))
      (pss_one (ps_ret pe_bl))
      pss_nil)))
      (pss_one (ps_ret (pe_call G__law_good (hr.mono (by decide)) (by rfl) T.g__law_good T.F__law_good.kp T.b__law_good .nil pass0 (pa_cons (pv 0) (pa_cons (pv 1) (pa_cons (pv 2) (pa_cons (pv 5) pa_nil)))))))))))))), ?_⟩)
  apply VL.wvI
  · intro B; walk_at "vi"
  · intro ts Qv Xv h
    obtain ⟨ss, lo, hi, lo2, hi2, a, b, c, rfl, so, bd, bd2, ab, k⟩ := h
    obtain ⟨l1, l2, m1, m2⟩ := bd
    obtain ⟨p1, p2, q1, q2⟩ := bd2
    obtain ⟨a0, a1, b0, c0⟩ := ab
    have r1 := (rows_len (ss := ss) l1 m2).1
    have r2 := (rows_len (ss := ss) p1 q2).1
    have okr : okD (.lst ((rowsF ss lo hi).map tR)) = true := encR.list.ok (by decide) _
    walk_at "V"
    refine ⟨ss, lo, hi, false, rfl, so, l1, l2, m1, m2, ?_⟩
    rw [if_neg (by decide : ¬ false = true)]
    walk_at "V"
    refine ⟨ss, lo, hi, rfl, so, l1, l2, m1, m2, ?_⟩
    walk_at "V"
    refine ⟨ss, lo2, hi2, false, rfl, so, p1, p2, q1, q2, ?_⟩
    rw [if_neg (by decide : ¬ false = true)]
    walk_at "V"
    refine ⟨ss, lo2, hi2, rowsF ss lo hi, rfl, so, p1, p2, q1, q2, by omega, ?_⟩
    have e1 : (rowsF ss lo hi).map tR ++ [.tup [.int lo, .int 0, .int 0]] = (rowsF ss lo hi ++ [(lo, 0, 0)]).map tR := by rw [List.map_append]; rfl
    have e2 : (rowsF ss lo hi).map tR ++ [.tup [.int 60, .int 0, .int 1]] = (rowsF ss lo hi ++ [(60, 0, 1)]).map tR := by rw [List.map_append]; rfl
    walk_at "V"
    rw [e1, e2]
    have w1 : (rowsF ss lo hi ++ [(lo, 0, 0)]).length ≤ 200 := by rw [List.length_append]; simp only [List.length_cons, List.length_nil]; omega
    have w2 : (rowsF ss lo hi ++ [(60, 0, 1)]).length ≤ 200 := by rw [List.length_append]; simp only [List.length_cons, List.length_nil]; omega
    by_cases ne : rowsF ss lo hi = []
    · have em : ((rowsF ss lo hi).map tR).isEmpty = true := by rw [ne]; rfl
      rw [em]
      have WrB : ∀ l ∈ [rowsF ss lo hi ++ [(lo, 0, 0)], rowsF ss lo hi ++ [(60, 0, 1)]], l.length ≤ 200 := fun l h => by
        simp only [List.mem_cons, List.not_mem_nil, or_false] at h
        rcases h with h | h <;> rw [h] <;> assumption
      generalize hW : [rowsF ss lo hi ++ [(lo, 0, 0)], rowsF ss lo hi ++ [(60, 0, 1)]] = Wr at WrB
      have hW : [VL.T.lst ((rowsF ss lo hi ++ [(lo, 0, 0)]).map tR), VL.T.lst ((rowsF ss lo hi ++ [(60, 0, 1)]).map tR)] = Wr.map tL := by rw [← hW]; rfl
      rw [hW]
      walk_at "V"
      refine for_liveF (β := Unit) (xs := Wr) (f := tL) (fun γ _ => (γ.fr 1).unset 8) (fun _ _ => True) (fun _ => rfl) (Nx.mk () (by walk_at "le") trivial) ?_ ?_
      · rintro i l _ hl _
        have ll := WrB l (List.mem_of_getElem? hl)
        walk_at "V"
        refine ⟨ss, lo, hi, l, rfl, so, l1, l2, m1, m2, ll, ?_⟩
        walk_at "V"
        exact Nx.mk () (by walk_at "le") trivial
      rintro _ _
      walk_at "V"
      refine ⟨ss, lo, hi, rfl, so, l1, l2, m1, m2, ?_⟩
      walk_at "V"
      exact k
    · have em : ((rowsF ss lo hi).map tR).isEmpty = false := by
        cases h : rowsF ss lo hi with
        | nil => exact absurd h ne
        | cons x l => rfl
      have rp : 0 < (rowsF ss lo hi).length := List.length_pos_iff.mpr ne
      rw [em]
      have x0 := Int.emod_nonneg a (b := ((rowsF ss lo hi).length : Int)) (by omega)
      have x1 := Int.emod_lt_of_pos a (b := ((rowsF ss lo hi).length : Int)) (by omega)
      walk_at "V"
      rw [List.length_map]
      refine ⟨rowsF ss lo hi, a % ((rowsF ss lo hi).length : Int), b, c, rfl, x0, x1, r1, ⟨b0, c0⟩, fun out ol ob => ?_⟩
      have WrB : ∀ l ∈ [rowsF ss lo hi ++ [(lo, 0, 0)], rowsF ss lo hi ++ [(60, 0, 1)]] ++ out, l.length ≤ 200 := fun l h => by
        rcases List.mem_append.mp h with h | h
        · simp only [List.mem_cons, List.not_mem_nil, or_false] at h
          rcases h with h | h <;> rw [h] <;> assumption
        · exact ob l h
      generalize hW : [rowsF ss lo hi ++ [(lo, 0, 0)], rowsF ss lo hi ++ [(60, 0, 1)]] ++ out = Wr at WrB
      have hW : VL.T.lst ((rowsF ss lo hi ++ [(lo, 0, 0)]).map tR) :: VL.T.lst ((rowsF ss lo hi ++ [(60, 0, 1)]).map tR) :: out.map tL = Wr.map tL := by rw [← hW]; rfl
      walk_at "V"
      rw [hW]
      walk_at "V"
      refine for_liveF (β := Unit) (xs := Wr) (f := tL) (fun γ _ => (γ.fr 1).unset 8) (fun _ _ => True) (fun _ => rfl) (Nx.mk () (by walk_at "le") trivial) ?_ ?_
      · rintro i l _ hl _
        have ll := WrB l (List.mem_of_getElem? hl)
        walk_at "V"
        refine ⟨ss, lo, hi, l, rfl, so, l1, l2, m1, m2, ll, ?_⟩
        walk_at "V"
        exact Nx.mk () (by walk_at "le") trivial
      rintro _ _
      walk_at "V"
      refine ⟨ss, lo, hi, rfl, so, l1, l2, m1, m2, ?_⟩
      walk_at "V"
      exact k
def spRch : VSp := fun vs Q _ => ∃ p g lo hi : Int, vs = [.int p, .int g, .tup [.int lo, .int hi]] ∧ (0 ≤ p ∧ p ≤ 70) ∧ (-(10 ^ 17) ≤ g ∧ g ≤ 10 ^ 17) ∧ 1 ≤ lo ∧ lo ≤ 60 ∧ 1 ≤ hi ∧ hi ≤ 60 ∧ Q (.new (.lst ((reach p g lo hi).map VL.T.int))) []
theorem sc__law_reached : FnScope ["_law_spot", "_law_gap", "_law_bounds_here", "_law_size"] ["_law_spot", "_law_gap", "_law_bounds_here"] (defScope s__law_reached) := ⟨rfl, rfl, rfl, by decide +kernel, rfl, by decide +kernel, by decide +kernel⟩
theorem ok__law_reached (T : Txt K mg D) : FnOk P w K mg base CX0 1 D.a__law_reached D.d__law_reached ["_law_spot", "_law_gap", "_law_bounds_here"] (vsp K [false, false, false] spRch) := by
  refine VL.okV T.F__law_reached sc__law_reached rfl (by decide) (fun cdv A outer s H E hr => have hu := VL.huR hr; ⟨_, (pss_one (ps_ret (pe_lc (own := [("_law_size", 3)]) (g := (gName 3)) (by rfl) sc__law_reached.nd (pi_range2 (by rfl) T.n_range (pa_cons (pe_ix ix_seq (pv 2) pe_int (fun _ _ => rfl)) (pa_cons (pe_op VL.op_addU (pe_ix ix_seq (pv 2) pe_int (fun _ _ => rfl)) pe_int) pa_nil))) (blkOk_by (own := [("_law_size", 3)]) (N := ["_law_spot", "_law_gap", "_law_bounds_here", "_law_size"]) (sc := defScope s__law_reached) (by decide +kernel)) (fun _ _ _ _ _ => (pg_name (i := 3) sc__law_reached.nd rfl (Or.inl rfl))) (fun _ _ _ _ _ => (pts_one (pt_cmpR op_gt (pv 3) (pv 0) (nomark _)))) (fun _ _ _ _ _ => (pe_op op_mod (pe_callTy VL.call_intU (by rfl) T.n_int (by decide +kernel) (pa_cons (pe_op (VL.op_addK (K := K) rfl) (pv 0) (pv 1)) pa_nil)) (pv 3)))))), ?_⟩)
  apply VL.wvI
  · intro B; walk_at "vi"
  · intro ts Qv Xv h
    obtain ⟨p, g, lo, hi, rfl, hp, hg, l1, l2, m1, m2, k⟩ := h
    have ll : (lens lo hi).length ≤ 60 := by unfold lens; rw [List.length_map, List.length_range]; omega
    walk_at "V"
    rw [lens_rng]
    refine lc_fm (fun n => if p < n then some (VL.T.int ((p + g) % n)) else none) (fun i n out hn ol => ?_) ?_
    · have hm := mem_lens.mp (List.mem_of_getElem? hn)
      walk_at "V"
      by_cases c : p < n
      · rw [decide_eq_true c]
        walk_at "V"
        exact NL.mk _ (by walk_at "le") (by rw [if_pos c]; rfl)
      · rw [decide_eq_false c]
        exact NL.mk _ (by walk_at "le") (by rw [if_neg c]; exact (List.append_nil _).symm)
    have e : ∀ l : List Int, (l.filterMap fun n => if p < n then some (VL.T.int ((p + g) % n)) else none) = ((l.filter fun n => decide (p < n)).map fun n => (p + g) % n).map VL.T.int := fun l => by
      induction l with
      | nil => rfl
      | cons a l ih => by_cases c : p < a <;> simp [List.filterMap_cons, List.filter_cons, c, ih]
    rw [e]
    walk_at "V"
    exact k
def spIL : VSp := fun vs Q _ => ∃ ns : List Int, vs = [.lst (ns.map VL.T.int), .lst (ns.map VL.T.int)] ∧ ns.length < 1000 ∧ Q (.val (.bl true)) []
theorem sc__law_is_list : FnScope ["_law_told", "_law_due", "_law_one"] ["_law_told", "_law_due"] (defScope s__law_is_list) := ⟨rfl, rfl, rfl, by decide +kernel, rfl, by decide +kernel, by decide +kernel⟩
theorem ok__law_is_list (T : Txt K mg D) : FnOk P w K mg base CX0 3 D.a__law_is_list D.d__law_is_list ["_law_told", "_law_due"] (vsp K [false, false] spIL) := by
  have G__law_is_number := ok__law_is_number (P := P) (w := w) (base := base) T
  refine VL.okV T.F__law_is_list sc__law_is_list rfl (by decide) (fun cdv A outer s H E hr => have hu := VL.huR hr; ⟨_, (pss_cons (ps_if (PW.pt (pw_or (pt_not (pt_val (pe_callB call_isi (by rfl) T.n_isinstance (by decide +kernel) (pa_cons (pv 0) (pa_cons (pe_bltn (v := .ty "list") (u := .type "list") (by rfl) T.n_list (by decide +kernel) rfl) pa_nil))))) (pw_or1 (pt_not (pt_val (pe_callB (cr_all rfl) (by rfl) T.n_all (by decide +kernel) (pa_cons (pe_lc (own := [("_law_one", 2)]) (g := (gName 2)) (tt := tYes) (by rfl) sc__law_is_list.nd (VL.pi_dyn (pv 0)) (blkOk_by (own := [("_law_one", 2)]) (N := ["_law_told", "_law_due", "_law_one"]) (sc := defScope s__law_is_list) (by decide +kernel)) (fun _ _ _ _ _ => (pg_name (i := 2) sc__law_is_list.nd rfl (Or.inl rfl))) (fun _ _ _ _ _ => pts_nil) (fun _ _ _ _ _ => (pe_call G__law_is_number (hr.mono (by decide)) (by rfl) T.g__law_is_number T.F__law_is_number.kp T.b__law_is_number .nil pass0 (pa_cons (pv 2) pa_nil)))) pa_nil)))))))
      (pss_one (ps_ret pe_bl))
      pss_nil)
      (pss_one (ps_ret (pe_cmpR (op_eqD (VL.hu64 hu)) (pv 0) (pv 1) (nomark _))))), ?_⟩)
  apply VL.wvI
  · intro B; walk_at "vi"
  · intro ts Qv Xv h
    obtain ⟨ns, rfl, hl, k⟩ := h
    have okr : okD (.lst (ns.map VL.T.int)) = true := encInt.list.ok (by decide) _
    walk_at "V"
    refine lc_map (fun _ => VL.T.bl true) (fun i n out hn ol => ?_) ?_
    · walk_at "V"
      exact NL.mk _ (by walk_at "le") rfl
    walk_at "V"
    refine ⟨ns.map fun _ => true, by rw [List.map_map]; rfl, ?_⟩
    have ea : (ns.map fun _ => true).all id = true := by rw [List.all_map]; exact List.all_eq_true.mpr fun _ _ => rfl
    rw [ea]
    walk_at "V"
    rw [encInt.list.eq, decide_eq_true rfl]
    exact k
def spGps : VSp := fun vs Q _ => ∃ p o g span lo hi : Int, vs = [.int p, .int o, .int g, .int span, .tup [.int lo, .int hi]] ∧ (0 ≤ p ∧ p ≤ 70) ∧ (0 ≤ o ∧ o ≤ 70) ∧ (-(10 ^ 17) ≤ g ∧ g ≤ 10 ^ 17) ∧ (-3 ≤ span ∧ span ≤ 130) ∧ 1 ≤ lo ∧ lo ≤ 60 ∧ 1 ≤ hi ∧ hi ≤ 60 ∧ Q (.val (.bl true)) []
theorem srtD_len (ns : List Int) : (srtD ns).length ≤ ns.length := nd_len ((srtD_lt ns).imp fun h => Int.ne_of_lt h) fun _ h => srtD_mem.mp h
theorem due_len {p o lo hi span : Int} (h : span ≤ 130) : (dueG p o lo hi span).length ≤ 131 := by
  unfold dueG
  rw [List.length_map]
  refine Nat.le_trans (List.length_filter_le _ _) ?_
  rw [List.length_range]
  omega
theorem sc__law_gaps : FnScope ["_law_spot", "_law_other", "_law_gap", "_law_span", "_law_bounds_here", "_law_due", "_law_day"] ["_law_spot", "_law_other", "_law_gap", "_law_span", "_law_bounds_here"] (defScope s__law_gaps) := ⟨rfl, rfl, rfl, by decide +kernel, rfl, by decide +kernel, by decide +kernel⟩
theorem ok__law_gaps (T : Txt K mg D) : FnOk P w K mg base CX0 5 D.a__law_gaps D.d__law_gaps ["_law_spot", "_law_other", "_law_gap", "_law_span", "_law_bounds_here"] (vsp K [false, false, false, false, false] spGps) := by
  have G__law_is_list := ok__law_is_list (P := P) (w := w) (base := base) T
  have G_possible_gaps := ok_possible_gaps (P := P) (w := w) (base := base) T
  have G__law_reached := ok__law_reached (P := P) (w := w) (base := base) T
  have G_gap_places := ok_gap_places (P := P) (w := w) (base := base) T
  refine VL.okV T.F__law_gaps sc__law_gaps rfl (by decide) (fun cdv A outer s H E hr => have hu := VL.huR hr; ⟨_, (pss_cons (ps_set (i := 5) sc__law_gaps.nd rfl (Or.inl rfl) (pe_callB (VL.call_sortedSet (w := w) rfl rfl) (by rfl) T.n_sorted (by decide +kernel) (pa_cons (pe_callTy (VL.call_setL (K := K) (w := w) rfl rfl rfl) (by rfl) T.n_set (by decide +kernel) (pa_cons (pe_call G__law_reached (hr.mono (by decide)) (by rfl) T.g__law_reached T.F__law_reached.kp T.b__law_reached .nil pass0 (pa_cons (pv 0) (pa_cons (pv 2) (pa_cons (pv 4) pa_nil)))) pa_nil)) pa_nil)))
      (pss_cons (ps_if (pt_not (pt_val (pe_call G__law_is_list (hr.mono (by decide)) (by rfl) T.g__law_is_list T.F__law_is_list.kp T.b__law_is_list .nil pass0 (pa_cons (pe_call G_gap_places (hr.mono (by decide)) (by rfl) T.g_gap_places T.F_gap_places.kp T.b_gap_places .nil pass0 (pa_cons (pv 0) (pa_cons (pv 2) (pa_cons (pe_ix ix_seq (pv 4) pe_int (fun _ _ => rfl)) (pa_cons (pe_ix ix_seq (pv 4) pe_int (fun _ _ => rfl)) pa_nil))))) (pa_cons (pv 5) pa_nil)))))
      (pss_one (ps_ret pe_bl))
      pss_nil)
      (pss_cons (ps_setLc (i := 5) (own := [("_law_day", 6)]) (g := (gName 6)) (by rfl) sc__law_gaps.nd rfl rfl (sw_true rfl rfl rfl (by decide +kernel)) (pi_range1 (by rfl) T.n_range (pa_cons (pe_op VL.op_addU (pv 3) pe_int) pa_nil)) (blkOk_by (own := [("_law_day", 6)]) (N := ["_law_spot", "_law_other", "_law_gap", "_law_span", "_law_bounds_here", "_law_due", "_law_day"]) (sc := defScope s__law_gaps) (by decide +kernel)) (fun _ _ _ _ _ => (pg_name (i := 6) sc__law_gaps.nd rfl (Or.inl rfl))) (fun _ _ _ _ _ => (pts_one (pt_cmpR (VL.op_inK (K := K) rfl hu) (pv 1) (pe_call G__law_reached (hr.mono (by decide)) (by rfl) T.g__law_reached T.F__law_reached.kp T.b__law_reached .nil pass0 (pa_cons (pv 0) (pa_cons (pv 6) (pa_cons (pv 4) pa_nil)))) rfl))) (fun _ _ _ _ _ => (pv 6)))
      (pss_one (ps_ret (pe_call G__law_is_list (hr.mono (by decide)) (by rfl) T.g__law_is_list T.F__law_is_list.kp T.b__law_is_list .nil pass0 (pa_cons (pe_call G_possible_gaps (hr.mono (by decide)) (by rfl) T.g_possible_gaps T.F_possible_gaps.kp T.b_possible_gaps .nil pass0 (pa_cons (pv 0) (pa_cons (pv 1) (pa_cons (pe_ix ix_seq (pv 4) pe_int (fun _ _ => rfl)) (pa_cons (pe_ix ix_seq (pv 4) pe_int (fun _ _ => rfl)) (pa_cons (pv 3) pa_nil)))))) (pa_cons (pv 5) pa_nil)))))))), ?_⟩)
  apply VL.wvI
  · intro B; walk_at "vi"
  · intro ts Qv Xv h
    obtain ⟨p, o, g, span, lo, hi, rfl, hp, ho, hg, hs, l1, l2, m1, m2, k⟩ := h
    have ll : (lens lo hi).length ≤ 60 := by unfold lens; rw [List.length_map, List.length_range]; omega
    have rl : (reach p g lo hi).length ≤ 60 := by unfold reach; rw [List.length_map]; exact Nat.le_trans (List.length_filter_le _ _) ll
    have sl := Nat.le_trans (srtD_len (reach p g lo hi)) rl
    have dl := due_len (p := p) (o := o) (lo := lo) (hi := hi) hs.2
    walk_at "V"
    refine ⟨p, g, lo, hi, rfl, hp, hg, l1, l2, m1, m2, ?_⟩
    walk_at "V"
    rw [srtD_setOf]
    refine ⟨p, g, lo, hi, rfl, hp, hg, l1, l2, m1, m2, ?_⟩
    walk_at "V"
    rw [rng_ints, List.map_map]
    refine lc_filter (fun d : Nat => decide (o ∈ reach p (d : Int) lo hi)) (VL.T.int ∘ fun d : Nat => (d : Int)) (fun i d out hd ol => ?_) ?_
    · have hd := List.mem_range.mp (List.mem_of_getElem? hd)
      rw [List.length_range] at ol
      walk_at "V"
      refine ⟨p, (d : Int), lo, hi, rfl, hp, ⟨by omega, by omega⟩, l1, l2, m1, m2, ?_⟩
      walk_at "V"
      have an : anyT (VL.T.int o) ((reach p (d : Int) lo hi).map VL.T.int) = decide (o ∈ reach p (d : Int) lo hi) := encInt.mem _ _
      rw [an]
      by_cases c : o ∈ reach p (d : Int) lo hi
      · rw [decide_eq_true c]
        walk_at "V"
        exact NL.keep rfl (by walk_at "le")
      · rw [decide_eq_false c]
        exact NL.skip rfl (by walk_at "le")
    have ed : ((List.range (span + 1).toNat).filter fun d : Nat => decide (o ∈ reach p (d : Int) lo hi)).map (VL.T.int ∘ fun d : Nat => (d : Int)) = (dueG p o lo hi span).map VL.T.int := by unfold dueG; rw [List.map_map]
    rw [ed]
    walk_at "V"
    refine ⟨p, o, lo, hi, span, rfl, hp, ho, l1, l2, m1, m2, hs.1, hs.2, ?_⟩
    walk_at "V"
    exact k
theorem sc_law : FnScope ["_law_script", "_law_box_here", "_law_size", "_law_sightings_here", "_law_bounds_here", "_law_other", "_law_spoil", "_law_given", "_law_reach", "_law_gap", "_law_top", "_law_spot", "_law_second", "_law_span"] ["_law_script"] (defScope s_law) := ⟨rfl, rfl, rfl, by decide +kernel, rfl, by decide +kernel, by decide +kernel⟩
theorem okv_law (T : Txt K mg D) : FnOk P w K mg base CX0 21 D.a_law D.d_law ["_law_script"] (vsp K [false] spLawV) := by
  have G__law_gaps := ok__law_gaps (P := P) (w := w) (base := base) T
  have G__law_draw := ok__law_draw (P := P) (w := w) (base := base) T
  have G__law_tables := ok__law_tables (P := P) (w := w) (base := base) T
  have G__law_bounds := ok__law_bounds (P := P) (w := w) (base := base) T
  have G__law_sightings := ok__law_sightings (P := P) (w := w) (base := base) T
  have G__law_box := ok__law_box (P := P) (w := w) (base := base) T
  refine VL.okV T.F_law sc_law rfl (by decide) (fun cdv A outer s H E hr => have hu := VL.huR hr; ⟨_, (pss_cons (ps_set (i := 1) sc_law.nd rfl (Or.inl rfl) (pe_call G__law_box (hr.mono (by decide)) (by rfl) T.g__law_box T.F__law_box.kp T.b__law_box .nil pass0 (pa_cons (pv 0) pa_nil)))
      (pss_cons (ps_set (i := 2) sc_law.nd rfl (Or.inl rfl) (pe_op VL.op_addU pe_int (pe_call G__law_draw (hr.mono (by decide)) (by rfl) T.g__law_draw T.F__law_draw.kp T.b__law_draw .nil pass0 (pa_cons (pv 1) (pa_cons (pe_ix ix_seq (pe_lst (pa_cons pe_int (pa_cons pe_int pa_nil))) (pe_call G__law_draw (hr.mono (by decide)) (by rfl) T.g__law_draw T.F__law_draw.kp T.b__law_draw .nil pass0 (pa_cons (pv 1) (pa_cons pe_int pa_nil))) (fun _ _ => rfl)) pa_nil)))))
      (pss_cons (ps_set (i := 3) sc_law.nd rfl (Or.inl rfl) (pe_call G__law_sightings (hr.mono (by decide)) (by rfl) T.g__law_sightings T.F__law_sightings.kp T.b__law_sightings .nil pass0 (pa_cons (pv 1) (pa_cons (pv 2) pa_nil))))
      (pss_cons (ps_set (i := 4) sc_law.nd rfl (Or.inl rfl) (pe_call G__law_bounds (hr.mono (by decide)) (by rfl) T.g__law_bounds T.F__law_bounds.kp T.b__law_bounds .nil pass0 (pa_cons (pv 1) (pa_cons (pv 2) pa_nil))))
      (pss_cons (ps_set (i := 5) sc_law.nd rfl (Or.inl rfl) (pe_call G__law_bounds (hr.mono (by decide)) (by rfl) T.g__law_bounds T.F__law_bounds.kp T.b__law_bounds .nil pass0 (pa_cons (pv 1) (pa_cons (pv 2) pa_nil))))
      (pss_cons (ps_set (i := 6) sc_law.nd rfl (Or.inl rfl) (pe_tup (pa_cons (pe_call G__law_draw (hr.mono (by decide)) (by rfl) T.g__law_draw T.F__law_draw.kp T.b__law_draw .nil pass0 (pa_cons (pv 1) (pa_cons pe_int pa_nil))) (pa_cons (pe_op op_sub (pe_call G__law_draw (hr.mono (by decide)) (by rfl) T.g__law_draw T.F__law_draw.kp T.b__law_draw .nil pass0 (pa_cons (pv 1) (pa_cons pe_int pa_nil))) pe_int) (pa_cons (pe_op op_pow pe_int pe_int) pa_nil)))))
      (pss_cons (ps_set (i := 7) sc_law.nd rfl (Or.inl rfl) (pe_callTy VL.call_listU (by rfl) T.n_list (by decide +kernel) (pa_cons (pv 3) pa_nil)))
      (pss_cons (ps_if (pt_not (pt_val (pe_call G__law_tables (hr.mono (by decide)) (by rfl) T.g__law_tables T.F__law_tables.kp T.b__law_tables .nil pass0 (pa_cons (pv 7) (pa_cons (pv 3) (pa_cons (pv 4) (pa_cons (pv 5) (pa_cons (pv 6) pa_nil))))))))
      (pss_one (ps_ret pe_bl))
      pss_nil)
      (pss_cons (ps_set (i := 8) sc_law.nd rfl (Or.inl rfl) (pe_ix ix_seq (pe_lst (pa_cons pe_int (pa_cons pe_int (pa_cons (pe_op op_pow pe_int pe_int) (pa_cons (pe_op op_pow pe_int pe_int) pa_nil))))) (pe_call G__law_draw (hr.mono (by decide)) (by rfl) T.g__law_draw T.F__law_draw.kp T.b__law_draw .nil pass0 (pa_cons (pv 1) (pa_cons pe_int pa_nil))) (fun _ _ => rfl)))
      (pss_cons (ps_set (i := 9) sc_law.nd rfl (Or.inl rfl) (pe_op op_sub (pe_call G__law_draw (hr.mono (by decide)) (by rfl) T.g__law_draw T.F__law_draw.kp T.b__law_draw .nil pass0 (pa_cons (pv 1) (pa_cons (pe_op VL.op_addU (pe_op VL.op_mulU pe_int (pv 8)) pe_int) pa_nil))) (pv 8)))
      (pss_cons (ps_set (i := 10) sc_law.nd rfl (Or.inl rfl) (pe_ix ix_seq (pe_lst (pa_cons pe_int (pa_cons pe_int (pa_cons pe_int pa_nil)))) (pe_call G__law_draw (hr.mono (by decide)) (by rfl) T.g__law_draw T.F__law_draw.kp T.b__law_draw .nil pass0 (pa_cons (pv 1) (pa_cons pe_int pa_nil))) (fun _ _ => rfl)))
      (pss_cons (ps_set (i := 11) sc_law.nd rfl (Or.inl rfl) (pe_call G__law_draw (hr.mono (by decide)) (by rfl) T.g__law_draw T.F__law_draw.kp T.b__law_draw .nil pass0 (pa_cons (pv 1) (pa_cons (pv 10) pa_nil))))
      (pss_cons (ps_set (i := 12) sc_law.nd rfl (Or.inl rfl) (pe_call G__law_draw (hr.mono (by decide)) (by rfl) T.g__law_draw T.F__law_draw.kp T.b__law_draw .nil pass0 (pa_cons (pv 1) (pa_cons (pv 10) pa_nil))))
      (pss_cons (ps_set (i := 13) sc_law.nd rfl (Or.inl rfl) (pe_op op_sub (pe_call G__law_draw (hr.mono (by decide)) (by rfl) T.g__law_draw T.F__law_draw.kp T.b__law_draw .nil pass0 (pa_cons (pv 1) (pa_cons pe_int pa_nil))) pe_int))
      (pss_one (ps_ret (pe_and (pe_call G__law_gaps (hr.mono (by decide)) (by rfl) T.g__law_gaps T.F__law_gaps.kp T.b__law_gaps .nil pass0 (pa_cons (pv 11) (pa_cons (pv 12) (pa_cons (pv 9) (pa_cons (pv 13) (pa_cons (pv 4) pa_nil)))))) (pe_one (pe_call G__law_gaps (hr.mono (by decide)) (by rfl) T.g__law_gaps T.F__law_gaps.kp T.b__law_gaps .nil pass0 (pa_cons (pv 12) (pa_cons (pv 11) (pa_cons (pv 9) (pa_cons (pv 13) (pa_cons (pv 5) pa_nil)))))))))))))))))))))))), ?_⟩)
  apply VL.wvI
  · intro B; walk_at "vi"
  · intro ts Qv Xv h
    obtain ⟨ns, rfl, hl, k⟩ := h
    walk_at "V"
    intro b0 B0
    walk_at "V"
    refine ⟨_, _, rfl, B0, by decide, by decide, fun i b1 i0 i1 B1 => ?_⟩
    refine isS_lit (l := [8, 60]) i0 i1 fun z hz => ?_
    have hz : 0 < z ∧ z ≤ 60 := (by decide : ∀ z ∈ [8, (60 : Int)], 0 < z ∧ z ≤ 60) z hz
    walk_at "V"
    refine ⟨_, _, rfl, B1, by omega, by omega, fun x b2 x0 x1 B2 => ?_⟩
    walk_at "V"
    refine ⟨_, 1 + x, rfl, B2, by omega, by omega, fun ss b3 so B3 => ?_⟩
    walk_at "V"
    refine ⟨_, 1 + x, rfl, B3, by omega, by omega, fun lo hi b4 l1 l2 m1 m2 B4 => ?_⟩
    walk_at "V"
    refine ⟨_, 1 + x, rfl, B4, by omega, by omega, fun lo2 hi2 b5 p1 p2 q1 q2 B5 => ?_⟩
    walk_at "V"
    refine ⟨_, _, rfl, B5, by decide, by decide, fun a b6 a0 a1 B6 => ?_⟩
    walk_at "V"
    refine ⟨_, _, rfl, B6, by decide, by decide, fun y b7 y0 y1 B7 => ?_⟩
    walk_at "V"
    refine ⟨ss, lo, hi, lo2, hi2, a, y - 2, _, rfl, so, ⟨l1, l2, m1, m2⟩, ⟨p1, p2, q1, q2⟩, ⟨a0, by omega, by omega, by decide⟩, ?_⟩
    walk_at "V"
    refine ⟨_, _, rfl, B7, by decide, by decide, fun j b8 j0 j1 B8 => ?_⟩
    refine isS_lit (l := [9, 400, 10 ^ Int.toNat 9, 10 ^ Int.toNat 17]) j0 j1 fun rc hr => ?_
    have hr : 0 ≤ rc ∧ rc ≤ 10 ^ 17 := (by decide : ∀ z ∈ [9, 400, 10 ^ Int.toNat 9, (10 : Int) ^ Int.toNat 17], 0 ≤ z ∧ z ≤ 10 ^ 17) rc hr
    walk_at "V"
    refine ⟨_, _, rfl, B8, by omega, by omega, fun gp b9 g0 g1 B9 => ?_⟩
    walk_at "V"
    refine ⟨_, _, rfl, B9, by decide, by decide, fun tj c1 t0 t1 C1 => ?_⟩
    refine isS_lit (l := [9, 60, 70]) t0 t1 fun tp ht => ?_
    have ht : 0 < tp ∧ tp ≤ 70 := (by decide : ∀ z ∈ [9, 60, (70 : Int)], 0 < z ∧ z ≤ 70) tp ht
    walk_at "V"
    refine ⟨_, _, rfl, C1, by omega, by omega, fun sp c2 s0 s1 C2 => ?_⟩
    walk_at "V"
    refine ⟨_, _, rfl, C2, by omega, by omega, fun s2 c3 r0 r1 C3 => ?_⟩
    walk_at "V"
    refine ⟨_, _, rfl, C3, by decide, by decide, fun sn c4 n0 n1 C4 => ?_⟩
    walk_at "V"
    refine ⟨sp, s2, gp - rc, sn - 3, lo, hi, rfl, ⟨by omega, by omega⟩, ⟨by omega, by omega⟩, ⟨by omega, by omega⟩, ⟨by omega, by omega⟩, l1, l2, m1, m2, ?_⟩
    walk_at "V"
    refine ⟨s2, sp, gp - rc, sn - 3, lo2, hi2, rfl, ⟨by omega, by omega⟩, ⟨by omega, by omega⟩, ⟨by omega, by omega⟩, ⟨by omega, by omega⟩, p1, p2, q1, q2, ?_⟩
    walk_at "V"
    exact k
theorem ok_law (T : Txt K mg D) : FnOk P w K mg base CX0 21 D.a_law D.d_law ["_law_script"] (spLaw K) := VL.okLaw (okv_law T)
end
end Toy
set_option Elab.async false
set_option linter.all false
set_option maxRecDepth 100000
set_option maxHeartbeats 4000000
set_option synthInstance.maxSize 1000000
set_option synthInstance.maxHeartbeats 4000000
namespace Toy
open PySem L2 XR VL
section
theorem all_mk {l : PySem.W.OpenLaw} {w : World} {K : PySem.W.Frag} {h : Heap} {mg : Str → Option Value} {fa : Addr} (X : K.In h) (G : h.Ns mainGlobals mg) (hfa : mg "law" = some (.ref fa))
    {x_place_on x_as_tuples x__demand x_remainder_row x_RemainderTable_init x__shut_by x_shut_lengths x__is_shut x_judge_table x_gap_places x_possible_gaps x__law_box x__law_draw x__law_is_number x__law_sightings x__law_bounds x__law_fits x__law_pairs x__law_rows x__law_sizes x__law_judged x__law_spoilt x__law_is_table x__law_says x__law_asked x__law_good x__law_tables x__law_reached x__law_is_list x__law_gaps x_law x_RemainderTable : Addr}
    {od_place_on an_place_on : Option Addr} {sl_place_on : Array (Option Value)} {oc_place_on kV_place_on dc_place_on pm_place_on cd_place_on ct_place_on : Value}
    {od_as_tuples an_as_tuples : Option Addr} {sl_as_tuples : Array (Option Value)} {oc_as_tuples kV_as_tuples dc_as_tuples pm_as_tuples cd_as_tuples ct_as_tuples : Value}
    {od__demand an__demand : Option Addr} {sl__demand : Array (Option Value)} {oc__demand kV__demand dc__demand pm__demand cd__demand ct__demand : Value}
    {od_remainder_row an_remainder_row : Option Addr} {sl_remainder_row : Array (Option Value)} {oc_remainder_row kV_remainder_row dc_remainder_row pm_remainder_row cd_remainder_row ct_remainder_row : Value}
    {od_RemainderTable_init an_RemainderTable_init : Option Addr} {sl_RemainderTable_init : Array (Option Value)} {oc_RemainderTable_init kV_RemainderTable_init dc_RemainderTable_init pm_RemainderTable_init cd_RemainderTable_init ct_RemainderTable_init : Value}
    {od__shut_by an__shut_by : Option Addr} {sl__shut_by : Array (Option Value)} {oc__shut_by kV__shut_by dc__shut_by pm__shut_by cd__shut_by ct__shut_by : Value}
    {od_shut_lengths an_shut_lengths : Option Addr} {sl_shut_lengths : Array (Option Value)} {oc_shut_lengths kV_shut_lengths dc_shut_lengths pm_shut_lengths cd_shut_lengths ct_shut_lengths : Value}
    {od__is_shut an__is_shut : Option Addr} {sl__is_shut : Array (Option Value)} {oc__is_shut kV__is_shut dc__is_shut pm__is_shut cd__is_shut ct__is_shut : Value}
    {od_judge_table an_judge_table : Option Addr} {sl_judge_table : Array (Option Value)} {oc_judge_table kV_judge_table dc_judge_table pm_judge_table cd_judge_table ct_judge_table : Value}
    {od_gap_places an_gap_places : Option Addr} {sl_gap_places : Array (Option Value)} {oc_gap_places kV_gap_places dc_gap_places pm_gap_places cd_gap_places ct_gap_places : Value}
    {od_possible_gaps an_possible_gaps : Option Addr} {sl_possible_gaps : Array (Option Value)} {oc_possible_gaps kV_possible_gaps dc_possible_gaps pm_possible_gaps cd_possible_gaps ct_possible_gaps : Value}
    {od__law_box an__law_box : Option Addr} {sl__law_box : Array (Option Value)} {oc__law_box kV__law_box dc__law_box pm__law_box cd__law_box ct__law_box : Value}
    {od__law_draw an__law_draw : Option Addr} {sl__law_draw : Array (Option Value)} {oc__law_draw kV__law_draw dc__law_draw pm__law_draw cd__law_draw ct__law_draw : Value}
    {od__law_is_number an__law_is_number : Option Addr} {sl__law_is_number : Array (Option Value)} {oc__law_is_number kV__law_is_number dc__law_is_number pm__law_is_number cd__law_is_number ct__law_is_number : Value}
    {od__law_sightings an__law_sightings : Option Addr} {sl__law_sightings : Array (Option Value)} {oc__law_sightings kV__law_sightings dc__law_sightings pm__law_sightings cd__law_sightings ct__law_sightings : Value}
    {od__law_bounds an__law_bounds : Option Addr} {sl__law_bounds : Array (Option Value)} {oc__law_bounds kV__law_bounds dc__law_bounds pm__law_bounds cd__law_bounds ct__law_bounds : Value}
    {od__law_fits an__law_fits : Option Addr} {sl__law_fits : Array (Option Value)} {oc__law_fits kV__law_fits dc__law_fits pm__law_fits cd__law_fits ct__law_fits : Value}
    {od__law_pairs an__law_pairs : Option Addr} {sl__law_pairs : Array (Option Value)} {oc__law_pairs kV__law_pairs dc__law_pairs pm__law_pairs cd__law_pairs ct__law_pairs : Value}
    {od__law_rows an__law_rows : Option Addr} {sl__law_rows : Array (Option Value)} {oc__law_rows kV__law_rows dc__law_rows pm__law_rows cd__law_rows ct__law_rows : Value}
    {od__law_sizes an__law_sizes : Option Addr} {sl__law_sizes : Array (Option Value)} {oc__law_sizes kV__law_sizes dc__law_sizes pm__law_sizes cd__law_sizes ct__law_sizes : Value}
    {od__law_judged an__law_judged : Option Addr} {sl__law_judged : Array (Option Value)} {oc__law_judged kV__law_judged dc__law_judged pm__law_judged cd__law_judged ct__law_judged : Value}
    {od__law_spoilt an__law_spoilt : Option Addr} {sl__law_spoilt : Array (Option Value)} {oc__law_spoilt kV__law_spoilt dc__law_spoilt pm__law_spoilt cd__law_spoilt ct__law_spoilt : Value}
    {od__law_is_table an__law_is_table : Option Addr} {sl__law_is_table : Array (Option Value)} {oc__law_is_table kV__law_is_table dc__law_is_table pm__law_is_table cd__law_is_table ct__law_is_table : Value}
    {od__law_says an__law_says : Option Addr} {sl__law_says : Array (Option Value)} {oc__law_says kV__law_says dc__law_says pm__law_says cd__law_says ct__law_says : Value}
    {od__law_asked an__law_asked : Option Addr} {sl__law_asked : Array (Option Value)} {oc__law_asked kV__law_asked dc__law_asked pm__law_asked cd__law_asked ct__law_asked : Value}
    {od__law_good an__law_good : Option Addr} {sl__law_good : Array (Option Value)} {oc__law_good kV__law_good dc__law_good pm__law_good cd__law_good ct__law_good : Value}
    {od__law_tables an__law_tables : Option Addr} {sl__law_tables : Array (Option Value)} {oc__law_tables kV__law_tables dc__law_tables pm__law_tables cd__law_tables ct__law_tables : Value}
    {od__law_reached an__law_reached : Option Addr} {sl__law_reached : Array (Option Value)} {oc__law_reached kV__law_reached dc__law_reached pm__law_reached cd__law_reached ct__law_reached : Value}
    {od__law_is_list an__law_is_list : Option Addr} {sl__law_is_list : Array (Option Value)} {oc__law_is_list kV__law_is_list dc__law_is_list pm__law_is_list cd__law_is_list ct__law_is_list : Value}
    {od__law_gaps an__law_gaps : Option Addr} {sl__law_gaps : Array (Option Value)} {oc__law_gaps kV__law_gaps dc__law_gaps pm__law_gaps cd__law_gaps ct__law_gaps : Value}
    {od_law an_law : Option Addr} {sl_law : Array (Option Value)} {oc_law kV_law dc_law pm_law cd_law ct_law : Value}
    (hC_RemainderTable : PySem.W.nsIn K mainGlobals "RemainderTable" = some (some (.ref x_RemainderTable)))
    (hK_RemainderTable : PySem.W.keepIn K (.ref x_RemainderTable) = true)
    (ha_place_on : PySem.W.nsIn K mainGlobals "place_on" = some (some (.ref x_place_on)))
    (hl_place_on : K.lookup x_place_on = some ⟨oc_place_on, od_place_on, .func (PySem.W.fnOf "place_on" "place_on" (defArgs s_place_on) (defBody s_place_on) (defScope s_place_on) .none kV_place_on dc_place_on pm_place_on an_place_on cd_place_on ct_place_on), sl_place_on⟩)
    (hc_place_on : PySem.W.codeIn K cd_place_on "place_on" = true)
    (hk_place_on : PySem.W.keepIn K (.ref x_place_on) = true)
    (ha_as_tuples : PySem.W.nsIn K mainGlobals "as_tuples" = some (some (.ref x_as_tuples)))
    (hl_as_tuples : K.lookup x_as_tuples = some ⟨oc_as_tuples, od_as_tuples, .func (PySem.W.fnOf "as_tuples" "as_tuples" (defArgs s_as_tuples) (defBody s_as_tuples) (defScope s_as_tuples) .none kV_as_tuples dc_as_tuples pm_as_tuples an_as_tuples cd_as_tuples ct_as_tuples), sl_as_tuples⟩)
    (hc_as_tuples : PySem.W.codeIn K cd_as_tuples "as_tuples" = true)
    (hk_as_tuples : PySem.W.keepIn K (.ref x_as_tuples) = true)
    (ha__demand : PySem.W.nsIn K mainGlobals "_demand" = some (some (.ref x__demand)))
    (hl__demand : K.lookup x__demand = some ⟨oc__demand, od__demand, .func (PySem.W.fnOf "_demand" "_demand" (defArgs s__demand) (defBody s__demand) (defScope s__demand) .none kV__demand dc__demand pm__demand an__demand cd__demand ct__demand), sl__demand⟩)
    (hc__demand : PySem.W.codeIn K cd__demand "_demand" = true)
    (hk__demand : PySem.W.keepIn K (.ref x__demand) = true)
    (ha_remainder_row : PySem.W.nsIn K mainGlobals "remainder_row" = some (some (.ref x_remainder_row)))
    (hl_remainder_row : K.lookup x_remainder_row = some ⟨oc_remainder_row, od_remainder_row, .func (PySem.W.fnOf "remainder_row" "remainder_row" (defArgs s_remainder_row) (defBody s_remainder_row) (defScope s_remainder_row) .none kV_remainder_row dc_remainder_row pm_remainder_row an_remainder_row cd_remainder_row ct_remainder_row), sl_remainder_row⟩)
    (hc_remainder_row : PySem.W.codeIn K cd_remainder_row "remainder_row" = true)
    (hk_remainder_row : PySem.W.keepIn K (.ref x_remainder_row) = true)
    (ha_RemainderTable_init : PySem.W.findIn K (.ref x_RemainderTable) "__init__" = some (some (.ref x_RemainderTable_init)))
    (hi_RemainderTable_init : PySem.W.isFn K (.ref x_RemainderTable_init) = true)
    (hl_RemainderTable_init : K.lookup x_RemainderTable_init = some ⟨oc_RemainderTable_init, od_RemainderTable_init, .func (PySem.W.fnOf "__init__" "RemainderTable.__init__" (defArgs s_RemainderTable_init) (defBody s_RemainderTable_init) (defScope s_RemainderTable_init) .none kV_RemainderTable_init dc_RemainderTable_init pm_RemainderTable_init an_RemainderTable_init cd_RemainderTable_init ct_RemainderTable_init), sl_RemainderTable_init⟩)
    (hc_RemainderTable_init : PySem.W.codeIn K cd_RemainderTable_init "RemainderTable.__init__" = true)
    (hk_RemainderTable_init : PySem.W.keepIn K (.ref x_RemainderTable_init) = true)
    (ha__shut_by : PySem.W.nsIn K mainGlobals "_shut_by" = some (some (.ref x__shut_by)))
    (hl__shut_by : K.lookup x__shut_by = some ⟨oc__shut_by, od__shut_by, .func (PySem.W.fnOf "_shut_by" "_shut_by" (defArgs s__shut_by) (defBody s__shut_by) (defScope s__shut_by) .none kV__shut_by dc__shut_by pm__shut_by an__shut_by cd__shut_by ct__shut_by), sl__shut_by⟩)
    (hc__shut_by : PySem.W.codeIn K cd__shut_by "_shut_by" = true)
    (hk__shut_by : PySem.W.keepIn K (.ref x__shut_by) = true)
    (ha_shut_lengths : PySem.W.nsIn K mainGlobals "shut_lengths" = some (some (.ref x_shut_lengths)))
    (hl_shut_lengths : K.lookup x_shut_lengths = some ⟨oc_shut_lengths, od_shut_lengths, .func (PySem.W.fnOf "shut_lengths" "shut_lengths" (defArgs s_shut_lengths) (defBody s_shut_lengths) (defScope s_shut_lengths) .none kV_shut_lengths dc_shut_lengths pm_shut_lengths an_shut_lengths cd_shut_lengths ct_shut_lengths), sl_shut_lengths⟩)
    (hc_shut_lengths : PySem.W.codeIn K cd_shut_lengths "shut_lengths" = true)
    (hk_shut_lengths : PySem.W.keepIn K (.ref x_shut_lengths) = true)
    (ha__is_shut : PySem.W.nsIn K mainGlobals "_is_shut" = some (some (.ref x__is_shut)))
    (hl__is_shut : K.lookup x__is_shut = some ⟨oc__is_shut, od__is_shut, .func (PySem.W.fnOf "_is_shut" "_is_shut" (defArgs s__is_shut) (defBody s__is_shut) (defScope s__is_shut) .none kV__is_shut dc__is_shut pm__is_shut an__is_shut cd__is_shut ct__is_shut), sl__is_shut⟩)
    (hc__is_shut : PySem.W.codeIn K cd__is_shut "_is_shut" = true)
    (hk__is_shut : PySem.W.keepIn K (.ref x__is_shut) = true)
    (ha_judge_table : PySem.W.nsIn K mainGlobals "judge_table" = some (some (.ref x_judge_table)))
    (hl_judge_table : K.lookup x_judge_table = some ⟨oc_judge_table, od_judge_table, .func (PySem.W.fnOf "judge_table" "judge_table" (defArgs s_judge_table) (defBody s_judge_table) (defScope s_judge_table) .none kV_judge_table dc_judge_table pm_judge_table an_judge_table cd_judge_table ct_judge_table), sl_judge_table⟩)
    (hc_judge_table : PySem.W.codeIn K cd_judge_table "judge_table" = true)
    (hk_judge_table : PySem.W.keepIn K (.ref x_judge_table) = true)
    (ha_gap_places : PySem.W.nsIn K mainGlobals "gap_places" = some (some (.ref x_gap_places)))
    (hl_gap_places : K.lookup x_gap_places = some ⟨oc_gap_places, od_gap_places, .func (PySem.W.fnOf "gap_places" "gap_places" (defArgs s_gap_places) (defBody s_gap_places) (defScope s_gap_places) .none kV_gap_places dc_gap_places pm_gap_places an_gap_places cd_gap_places ct_gap_places), sl_gap_places⟩)
    (hc_gap_places : PySem.W.codeIn K cd_gap_places "gap_places" = true)
    (hk_gap_places : PySem.W.keepIn K (.ref x_gap_places) = true)
    (ha_possible_gaps : PySem.W.nsIn K mainGlobals "possible_gaps" = some (some (.ref x_possible_gaps)))
    (hl_possible_gaps : K.lookup x_possible_gaps = some ⟨oc_possible_gaps, od_possible_gaps, .func (PySem.W.fnOf "possible_gaps" "possible_gaps" (defArgs s_possible_gaps) (defBody s_possible_gaps) (defScope s_possible_gaps) .none kV_possible_gaps dc_possible_gaps pm_possible_gaps an_possible_gaps cd_possible_gaps ct_possible_gaps), sl_possible_gaps⟩)
    (hc_possible_gaps : PySem.W.codeIn K cd_possible_gaps "possible_gaps" = true)
    (hk_possible_gaps : PySem.W.keepIn K (.ref x_possible_gaps) = true)
    (ha__law_box : PySem.W.nsIn K mainGlobals "_law_box" = some (some (.ref x__law_box)))
    (hl__law_box : K.lookup x__law_box = some ⟨oc__law_box, od__law_box, .func (PySem.W.fnOf "_law_box" "_law_box" (defArgs s__law_box) (defBody s__law_box) (defScope s__law_box) .none kV__law_box dc__law_box pm__law_box an__law_box cd__law_box ct__law_box), sl__law_box⟩)
    (hc__law_box : PySem.W.codeIn K cd__law_box "_law_box" = true)
    (hk__law_box : PySem.W.keepIn K (.ref x__law_box) = true)
    (ha__law_draw : PySem.W.nsIn K mainGlobals "_law_draw" = some (some (.ref x__law_draw)))
    (hl__law_draw : K.lookup x__law_draw = some ⟨oc__law_draw, od__law_draw, .func (PySem.W.fnOf "_law_draw" "_law_draw" (defArgs s__law_draw) (defBody s__law_draw) (defScope s__law_draw) .none kV__law_draw dc__law_draw pm__law_draw an__law_draw cd__law_draw ct__law_draw), sl__law_draw⟩)
    (hc__law_draw : PySem.W.codeIn K cd__law_draw "_law_draw" = true)
    (hk__law_draw : PySem.W.keepIn K (.ref x__law_draw) = true)
    (ha__law_is_number : PySem.W.nsIn K mainGlobals "_law_is_number" = some (some (.ref x__law_is_number)))
    (hl__law_is_number : K.lookup x__law_is_number = some ⟨oc__law_is_number, od__law_is_number, .func (PySem.W.fnOf "_law_is_number" "_law_is_number" (defArgs s__law_is_number) (defBody s__law_is_number) (defScope s__law_is_number) .none kV__law_is_number dc__law_is_number pm__law_is_number an__law_is_number cd__law_is_number ct__law_is_number), sl__law_is_number⟩)
    (hc__law_is_number : PySem.W.codeIn K cd__law_is_number "_law_is_number" = true)
    (hk__law_is_number : PySem.W.keepIn K (.ref x__law_is_number) = true)
    (ha__law_sightings : PySem.W.nsIn K mainGlobals "_law_sightings" = some (some (.ref x__law_sightings)))
    (hl__law_sightings : K.lookup x__law_sightings = some ⟨oc__law_sightings, od__law_sightings, .func (PySem.W.fnOf "_law_sightings" "_law_sightings" (defArgs s__law_sightings) (defBody s__law_sightings) (defScope s__law_sightings) .none kV__law_sightings dc__law_sightings pm__law_sightings an__law_sightings cd__law_sightings ct__law_sightings), sl__law_sightings⟩)
    (hc__law_sightings : PySem.W.codeIn K cd__law_sightings "_law_sightings" = true)
    (hk__law_sightings : PySem.W.keepIn K (.ref x__law_sightings) = true)
    (ha__law_bounds : PySem.W.nsIn K mainGlobals "_law_bounds" = some (some (.ref x__law_bounds)))
    (hl__law_bounds : K.lookup x__law_bounds = some ⟨oc__law_bounds, od__law_bounds, .func (PySem.W.fnOf "_law_bounds" "_law_bounds" (defArgs s__law_bounds) (defBody s__law_bounds) (defScope s__law_bounds) .none kV__law_bounds dc__law_bounds pm__law_bounds an__law_bounds cd__law_bounds ct__law_bounds), sl__law_bounds⟩)
    (hc__law_bounds : PySem.W.codeIn K cd__law_bounds "_law_bounds" = true)
    (hk__law_bounds : PySem.W.keepIn K (.ref x__law_bounds) = true)
    (ha__law_fits : PySem.W.nsIn K mainGlobals "_law_fits" = some (some (.ref x__law_fits)))
    (hl__law_fits : K.lookup x__law_fits = some ⟨oc__law_fits, od__law_fits, .func (PySem.W.fnOf "_law_fits" "_law_fits" (defArgs s__law_fits) (defBody s__law_fits) (defScope s__law_fits) .none kV__law_fits dc__law_fits pm__law_fits an__law_fits cd__law_fits ct__law_fits), sl__law_fits⟩)
    (hc__law_fits : PySem.W.codeIn K cd__law_fits "_law_fits" = true)
    (hk__law_fits : PySem.W.keepIn K (.ref x__law_fits) = true)
    (ha__law_pairs : PySem.W.nsIn K mainGlobals "_law_pairs" = some (some (.ref x__law_pairs)))
    (hl__law_pairs : K.lookup x__law_pairs = some ⟨oc__law_pairs, od__law_pairs, .func (PySem.W.fnOf "_law_pairs" "_law_pairs" (defArgs s__law_pairs) (defBody s__law_pairs) (defScope s__law_pairs) .none kV__law_pairs dc__law_pairs pm__law_pairs an__law_pairs cd__law_pairs ct__law_pairs), sl__law_pairs⟩)
    (hc__law_pairs : PySem.W.codeIn K cd__law_pairs "_law_pairs" = true)
    (hk__law_pairs : PySem.W.keepIn K (.ref x__law_pairs) = true)
    (ha__law_rows : PySem.W.nsIn K mainGlobals "_law_rows" = some (some (.ref x__law_rows)))
    (hl__law_rows : K.lookup x__law_rows = some ⟨oc__law_rows, od__law_rows, .func (PySem.W.fnOf "_law_rows" "_law_rows" (defArgs s__law_rows) (defBody s__law_rows) (defScope s__law_rows) .none kV__law_rows dc__law_rows pm__law_rows an__law_rows cd__law_rows ct__law_rows), sl__law_rows⟩)
    (hc__law_rows : PySem.W.codeIn K cd__law_rows "_law_rows" = true)
    (hk__law_rows : PySem.W.keepIn K (.ref x__law_rows) = true)
    (ha__law_sizes : PySem.W.nsIn K mainGlobals "_law_sizes" = some (some (.ref x__law_sizes)))
    (hl__law_sizes : K.lookup x__law_sizes = some ⟨oc__law_sizes, od__law_sizes, .func (PySem.W.fnOf "_law_sizes" "_law_sizes" (defArgs s__law_sizes) (defBody s__law_sizes) (defScope s__law_sizes) .none kV__law_sizes dc__law_sizes pm__law_sizes an__law_sizes cd__law_sizes ct__law_sizes), sl__law_sizes⟩)
    (hc__law_sizes : PySem.W.codeIn K cd__law_sizes "_law_sizes" = true)
    (hk__law_sizes : PySem.W.keepIn K (.ref x__law_sizes) = true)
    (ha__law_judged : PySem.W.nsIn K mainGlobals "_law_judged" = some (some (.ref x__law_judged)))
    (hl__law_judged : K.lookup x__law_judged = some ⟨oc__law_judged, od__law_judged, .func (PySem.W.fnOf "_law_judged" "_law_judged" (defArgs s__law_judged) (defBody s__law_judged) (defScope s__law_judged) .none kV__law_judged dc__law_judged pm__law_judged an__law_judged cd__law_judged ct__law_judged), sl__law_judged⟩)
    (hc__law_judged : PySem.W.codeIn K cd__law_judged "_law_judged" = true)
    (hk__law_judged : PySem.W.keepIn K (.ref x__law_judged) = true)
    (ha__law_spoilt : PySem.W.nsIn K mainGlobals "_law_spoilt" = some (some (.ref x__law_spoilt)))
    (hl__law_spoilt : K.lookup x__law_spoilt = some ⟨oc__law_spoilt, od__law_spoilt, .func (PySem.W.fnOf "_law_spoilt" "_law_spoilt" (defArgs s__law_spoilt) (defBody s__law_spoilt) (defScope s__law_spoilt) .none kV__law_spoilt dc__law_spoilt pm__law_spoilt an__law_spoilt cd__law_spoilt ct__law_spoilt), sl__law_spoilt⟩)
    (hc__law_spoilt : PySem.W.codeIn K cd__law_spoilt "_law_spoilt" = true)
    (hk__law_spoilt : PySem.W.keepIn K (.ref x__law_spoilt) = true)
    (ha__law_is_table : PySem.W.nsIn K mainGlobals "_law_is_table" = some (some (.ref x__law_is_table)))
    (hl__law_is_table : K.lookup x__law_is_table = some ⟨oc__law_is_table, od__law_is_table, .func (PySem.W.fnOf "_law_is_table" "_law_is_table" (defArgs s__law_is_table) (defBody s__law_is_table) (defScope s__law_is_table) .none kV__law_is_table dc__law_is_table pm__law_is_table an__law_is_table cd__law_is_table ct__law_is_table), sl__law_is_table⟩)
    (hc__law_is_table : PySem.W.codeIn K cd__law_is_table "_law_is_table" = true)
    (hk__law_is_table : PySem.W.keepIn K (.ref x__law_is_table) = true)
    (ha__law_says : PySem.W.nsIn K mainGlobals "_law_says" = some (some (.ref x__law_says)))
    (hl__law_says : K.lookup x__law_says = some ⟨oc__law_says, od__law_says, .func (PySem.W.fnOf "_law_says" "_law_says" (defArgs s__law_says) (defBody s__law_says) (defScope s__law_says) .none kV__law_says dc__law_says pm__law_says an__law_says cd__law_says ct__law_says), sl__law_says⟩)
    (hc__law_says : PySem.W.codeIn K cd__law_says "_law_says" = true)
    (hk__law_says : PySem.W.keepIn K (.ref x__law_says) = true)
    (ha__law_asked : PySem.W.nsIn K mainGlobals "_law_asked" = some (some (.ref x__law_asked)))
    (hl__law_asked : K.lookup x__law_asked = some ⟨oc__law_asked, od__law_asked, .func (PySem.W.fnOf "_law_asked" "_law_asked" (defArgs s__law_asked) (defBody s__law_asked) (defScope s__law_asked) .none kV__law_asked dc__law_asked pm__law_asked an__law_asked cd__law_asked ct__law_asked), sl__law_asked⟩)
    (hc__law_asked : PySem.W.codeIn K cd__law_asked "_law_asked" = true)
    (hk__law_asked : PySem.W.keepIn K (.ref x__law_asked) = true)
    (ha__law_good : PySem.W.nsIn K mainGlobals "_law_good" = some (some (.ref x__law_good)))
    (hl__law_good : K.lookup x__law_good = some ⟨oc__law_good, od__law_good, .func (PySem.W.fnOf "_law_good" "_law_good" (defArgs s__law_good) (defBody s__law_good) (defScope s__law_good) .none kV__law_good dc__law_good pm__law_good an__law_good cd__law_good ct__law_good), sl__law_good⟩)
    (hc__law_good : PySem.W.codeIn K cd__law_good "_law_good" = true)
    (hk__law_good : PySem.W.keepIn K (.ref x__law_good) = true)
    (ha__law_tables : PySem.W.nsIn K mainGlobals "_law_tables" = some (some (.ref x__law_tables)))
    (hl__law_tables : K.lookup x__law_tables = some ⟨oc__law_tables, od__law_tables, .func (PySem.W.fnOf "_law_tables" "_law_tables" (defArgs s__law_tables) (defBody s__law_tables) (defScope s__law_tables) .none kV__law_tables dc__law_tables pm__law_tables an__law_tables cd__law_tables ct__law_tables), sl__law_tables⟩)
    (hc__law_tables : PySem.W.codeIn K cd__law_tables "_law_tables" = true)
    (hk__law_tables : PySem.W.keepIn K (.ref x__law_tables) = true)
    (ha__law_reached : PySem.W.nsIn K mainGlobals "_law_reached" = some (some (.ref x__law_reached)))
    (hl__law_reached : K.lookup x__law_reached = some ⟨oc__law_reached, od__law_reached, .func (PySem.W.fnOf "_law_reached" "_law_reached" (defArgs s__law_reached) (defBody s__law_reached) (defScope s__law_reached) .none kV__law_reached dc__law_reached pm__law_reached an__law_reached cd__law_reached ct__law_reached), sl__law_reached⟩)
    (hc__law_reached : PySem.W.codeIn K cd__law_reached "_law_reached" = true)
    (hk__law_reached : PySem.W.keepIn K (.ref x__law_reached) = true)
    (ha__law_is_list : PySem.W.nsIn K mainGlobals "_law_is_list" = some (some (.ref x__law_is_list)))
    (hl__law_is_list : K.lookup x__law_is_list = some ⟨oc__law_is_list, od__law_is_list, .func (PySem.W.fnOf "_law_is_list" "_law_is_list" (defArgs s__law_is_list) (defBody s__law_is_list) (defScope s__law_is_list) .none kV__law_is_list dc__law_is_list pm__law_is_list an__law_is_list cd__law_is_list ct__law_is_list), sl__law_is_list⟩)
    (hc__law_is_list : PySem.W.codeIn K cd__law_is_list "_law_is_list" = true)
    (hk__law_is_list : PySem.W.keepIn K (.ref x__law_is_list) = true)
    (ha__law_gaps : PySem.W.nsIn K mainGlobals "_law_gaps" = some (some (.ref x__law_gaps)))
    (hl__law_gaps : K.lookup x__law_gaps = some ⟨oc__law_gaps, od__law_gaps, .func (PySem.W.fnOf "_law_gaps" "_law_gaps" (defArgs s__law_gaps) (defBody s__law_gaps) (defScope s__law_gaps) .none kV__law_gaps dc__law_gaps pm__law_gaps an__law_gaps cd__law_gaps ct__law_gaps), sl__law_gaps⟩)
    (hc__law_gaps : PySem.W.codeIn K cd__law_gaps "_law_gaps" = true)
    (hk__law_gaps : PySem.W.keepIn K (.ref x__law_gaps) = true)
    (ha_law : PySem.W.nsIn K mainGlobals "law" = some (some (.ref x_law)))
    (hl_law : K.lookup x_law = some ⟨oc_law, od_law, .func (PySem.W.fnOf "law" "law" (defArgs s_law) (defBody s_law) (defScope s_law) .none kV_law dc_law pm_law an_law cd_law ct_law), sl_law⟩)
    (hc_law : PySem.W.codeIn K cd_law "law" = true)
    (hk_law : PySem.W.keepIn K (.ref x_law) = true)
    (hn_ValueError : PySem.W.nsIn K mainGlobals "ValueError" = some none)
    (hn_abs : PySem.W.nsIn K mainGlobals "abs" = some none)
    (hn_all : PySem.W.nsIn K mainGlobals "all" = some none)
    (hn_bool : PySem.W.nsIn K mainGlobals "bool" = some none)
    (hn_enumerate : PySem.W.nsIn K mainGlobals "enumerate" = some none)
    (hn_int : PySem.W.nsIn K mainGlobals "int" = some none)
    (hn_isinstance : PySem.W.nsIn K mainGlobals "isinstance" = some none)
    (hn_len : PySem.W.nsIn K mainGlobals "len" = some none)
    (hn_list : PySem.W.nsIn K mainGlobals "list" = some none)
    (hn_max : PySem.W.nsIn K mainGlobals "max" = some none)
    (hn_min : PySem.W.nsIn K mainGlobals "min" = some none)
    (hn_range : PySem.W.nsIn K mainGlobals "range" = some none)
    (hn_set : PySem.W.nsIn K mainGlobals "set" = some none)
    (hn_sorted : PySem.W.nsIn K mainGlobals "sorted" = some none)
    (hn_tuple : PySem.W.nsIn K mainGlobals "tuple" = some none)
    (hx_cn_ : PySem.W.specialIn K (.builtin "object.__class__") "__get__" = some (some (.builtin "getset_descriptor.__get__")))
    (hx_ct_ : PySem.W.takesIn K (.builtin "object.__class__") = some true)
    (hx_ymk_RemainderTable : PySem.W.makesIn K x_RemainderTable = true)
    (hx_ypg_RemainderTable : PySem.W.plainGet K x_RemainderTable Str.empty = true)
    (hx_yhd_RemainderTable : PySem.W.hasDictIn K x_RemainderTable = true)
    (hx_ypo_RemainderTable : PySem.W.plainOver K x_RemainderTable = true)
    (hx_ysa_RemainderTable : PySem.W.findIn K (.ref x_RemainderTable) "__setattr__" = some (some (.builtin "object.__setattr__")))
    (hx_ysf_RemainderTable : PySem.W.selfFirst K x_RemainderTable = true)
    (hx_yca_RemainderTable : PySem.W.findIn K (.ref x_RemainderTable) "__class__" = some (some (.builtin "object.__class__")))
    (hx_ymo_RemainderTable : PySem.W.mroIn K x_RemainderTable (.type "object") = some true)
    (hx_zo_RemainderTable_RemainderTable : PySem.W.kitOne K (.ref x_RemainderTable) (.ref x_RemainderTable) = some true)
    (hx_zo_RemainderTable_bool : PySem.W.kitOne K (.ref x_RemainderTable) (.type "bool") = some false)
    (hx_zo_RemainderTable_int : PySem.W.kitOne K (.ref x_RemainderTable) (.type "int") = some false)
    (hx_zo_RemainderTable_list : PySem.W.kitOne K (.ref x_RemainderTable) (.type "list") = some false)
    (hx_zo_RemainderTable_tuple : PySem.W.kitOne K (.ref x_RemainderTable) (.type "tuple") = some false)
    (hx_no_RemainderTable_rows : PySem.W.findIn K (.ref x_RemainderTable) "rows" = some none) :
    ∃ fd : FuncData, (∀ (s : Shared) (v : Value), BindsTo s fd ⟨[v], []⟩ [("_law_script", v)]) ∧ ∀ base : Heap, K.In base → base.Ns mainGlobals mg → FnOk l.prog w K mg base CX0 21 fa fd ["_law_script"] (spLaw K) := by
  have e := hfa.symm.trans (PySem.W.mg_of X G ha_law)
  cases e
  have F_place_on := fun_mk (st := s_place_on) hl_place_on hc_place_on hk_place_on
  have b_place_on := F_place_on.binds (ps := ["cycle", "day"]) fun _ _ _ _ _ _ us hl => match us, hl with | [_, _], _ => rfl
  have F_as_tuples := fun_mk (st := s_as_tuples) hl_as_tuples hc_as_tuples hk_as_tuples
  have b_as_tuples := F_as_tuples.binds (ps := ["value"]) fun _ _ _ _ _ _ us hl => match us, hl with | [_], _ => rfl
  have F__demand := fun_mk (st := s__demand) hl__demand hc__demand hk__demand
  have b__demand := F__demand.binds (ps := ["sighting", "length"]) fun _ _ _ _ _ _ us hl => match us, hl with | [_, _], _ => rfl
  have F_remainder_row := fun_mk (st := s_remainder_row) hl_remainder_row hc_remainder_row hk_remainder_row
  have b_remainder_row := F_remainder_row.binds (ps := ["sightings", "length"]) fun _ _ _ _ _ _ us hl => match us, hl with | [_, _], _ => rfl
  have F_RemainderTable_init := fun_mk (st := s_RemainderTable_init) hl_RemainderTable_init hc_RemainderTable_init hk_RemainderTable_init
  have b_RemainderTable_init := F_RemainderTable_init.binds (ps := ["self", "rows"]) fun _ _ _ _ _ _ us hl => match us, hl with | [_, _], _ => rfl
  have F__shut_by := fun_mk (st := s__shut_by) hl__shut_by hc__shut_by hk__shut_by
  have b__shut_by := F__shut_by.binds (ps := ["row"]) fun _ _ _ _ _ _ us hl => match us, hl with | [_], _ => rfl
  have F_shut_lengths := fun_mk (st := s_shut_lengths) hl_shut_lengths hc_shut_lengths hk_shut_lengths
  have b_shut_lengths := F_shut_lengths.binds (ps := ["sightings", "least", "most"]) fun _ _ _ _ _ _ us hl => match us, hl with | [_, _, _], _ => rfl
  have F__is_shut := fun_mk (st := s__is_shut) hl__is_shut hc__is_shut hk__is_shut
  have b__is_shut := F__is_shut.binds (ps := ["row", "first", "second"]) fun _ _ _ _ _ _ us hl => match us, hl with | [_, _, _], _ => rfl
  have F_judge_table := fun_mk (st := s_judge_table) hl_judge_table hc_judge_table hk_judge_table
  have b_judge_table := F_judge_table.binds (ps := ["sightings", "least", "most", "table"]) fun _ _ _ _ _ _ us hl => match us, hl with | [_, _, _, _], _ => rfl
  have F_gap_places := fun_mk (st := s_gap_places) hl_gap_places hc_gap_places hk_gap_places
  have b_gap_places := F_gap_places.binds (ps := ["place", "gap", "least", "most"]) fun _ _ _ _ _ _ us hl => match us, hl with | [_, _, _, _], _ => rfl
  have F_possible_gaps := fun_mk (st := s_possible_gaps) hl_possible_gaps hc_possible_gaps hk_possible_gaps
  have b_possible_gaps := F_possible_gaps.binds (ps := ["place", "other", "least", "most", "span"]) fun _ _ _ _ _ _ us hl => match us, hl with | [_, _, _, _, _], _ => rfl
  have F__law_box := fun_mk (st := s__law_box) hl__law_box hc__law_box hk__law_box
  have b__law_box := F__law_box.binds (ps := ["_law_script"]) fun _ _ _ _ _ _ us hl => match us, hl with | [_], _ => rfl
  have F__law_draw := fun_mk (st := s__law_draw) hl__law_draw hc__law_draw hk__law_draw
  have b__law_draw := F__law_draw.binds (ps := ["_law_box_here", "_law_size"]) fun _ _ _ _ _ _ us hl => match us, hl with | [_, _], _ => rfl
  have F__law_is_number := fun_mk (st := s__law_is_number) hl__law_is_number hc__law_is_number hk__law_is_number
  have b__law_is_number := F__law_is_number.binds (ps := ["_law_value"]) fun _ _ _ _ _ _ us hl => match us, hl with | [_], _ => rfl
  have F__law_sightings := fun_mk (st := s__law_sightings) hl__law_sightings hc__law_sightings hk__law_sightings
  have b__law_sightings := F__law_sightings.binds (ps := ["_law_box_here", "_law_size"]) fun _ _ _ _ _ _ us hl => match us, hl with | [_, _], _ => rfl
  have F__law_bounds := fun_mk (st := s__law_bounds) hl__law_bounds hc__law_bounds hk__law_bounds
  have b__law_bounds := F__law_bounds.binds (ps := ["_law_box_here", "_law_size"]) fun _ _ _ _ _ _ us hl => match us, hl with | [_, _], _ => rfl
  have F__law_fits := fun_mk (st := s__law_fits) hl__law_fits hc__law_fits hk__law_fits
  have b__law_fits := F__law_fits.binds (ps := ["_law_sightings_here", "_law_size", "_law_first", "_law_second"]) fun _ _ _ _ _ _ us hl => match us, hl with | [_, _, _, _], _ => rfl
  have F__law_pairs := fun_mk (st := s__law_pairs) hl__law_pairs hc__law_pairs hk__law_pairs
  have b__law_pairs := F__law_pairs.binds (ps := ["_law_sightings_here", "_law_size"]) fun _ _ _ _ _ _ us hl => match us, hl with | [_, _], _ => rfl
  have F__law_rows := fun_mk (st := s__law_rows) hl__law_rows hc__law_rows hk__law_rows
  have b__law_rows := F__law_rows.binds (ps := ["_law_sightings_here", "_law_bounds_here", "_law_last"]) fun _ _ _ _ _ _ us hl => match us, hl with | [_, _, _], _ => rfl
  have F__law_sizes := fun_mk (st := s__law_sizes) hl__law_sizes hc__law_sizes hk__law_sizes
  have b__law_sizes := F__law_sizes.binds (ps := ["_law_rows_here"]) fun _ _ _ _ _ _ us hl => match us, hl with | [_], _ => rfl
  have F__law_judged := fun_mk (st := s__law_judged) hl__law_judged hc__law_judged hk__law_judged
  have b__law_judged := F__law_judged.binds (ps := ["_law_sightings_here", "_law_sizes_here", "_law_rows_here"]) fun _ _ _ _ _ _ us hl => match us, hl with | [_, _, _], _ => rfl
  have F__law_spoilt := fun_mk (st := s__law_spoilt) hl__law_spoilt hc__law_spoilt hk__law_spoilt
  have b__law_spoilt := F__law_spoilt.binds (ps := ["_law_rows_here", "_law_at", "_law_index", "_law_far"]) fun _ _ _ _ _ _ us hl => match us, hl with | [_, _, _, _], _ => rfl
  have F__law_is_table := fun_mk (st := s__law_is_table) hl__law_is_table hc__law_is_table hk__law_is_table
  have b__law_is_table := F__law_is_table.binds (ps := ["_law_table", "_law_due"]) fun _ _ _ _ _ _ us hl => match us, hl with | [_, _], _ => rfl
  have F__law_says := fun_mk (st := s__law_says) hl__law_says hc__law_says hk__law_says
  have b__law_says := F__law_says.binds (ps := ["_law_told", "_law_due"]) fun _ _ _ _ _ _ us hl => match us, hl with | [_, _], _ => rfl
  have F__law_asked := fun_mk (st := s__law_asked) hl__law_asked hc__law_asked hk__law_asked
  have b__law_asked := F__law_asked.binds (ps := ["_law_given", "_law_sightings_here", "_law_bounds_here", "_law_sizes_here", "_law_rows_here"]) fun _ _ _ _ _ _ us hl => match us, hl with | [_, _, _, _, _], _ => rfl
  have F__law_good := fun_mk (st := s__law_good) hl__law_good hc__law_good hk__law_good
  have b__law_good := F__law_good.binds (ps := ["_law_given", "_law_sightings_here", "_law_bounds_here", "_law_rows_here"]) fun _ _ _ _ _ _ us hl => match us, hl with | [_, _, _, _], _ => rfl
  have F__law_tables := fun_mk (st := s__law_tables) hl__law_tables hc__law_tables hk__law_tables
  have b__law_tables := F__law_tables.binds (ps := ["_law_given", "_law_sightings_here", "_law_bounds_here", "_law_other", "_law_spoil"]) fun _ _ _ _ _ _ us hl => match us, hl with | [_, _, _, _, _], _ => rfl
  have F__law_reached := fun_mk (st := s__law_reached) hl__law_reached hc__law_reached hk__law_reached
  have b__law_reached := F__law_reached.binds (ps := ["_law_spot", "_law_gap", "_law_bounds_here"]) fun _ _ _ _ _ _ us hl => match us, hl with | [_, _, _], _ => rfl
  have F__law_is_list := fun_mk (st := s__law_is_list) hl__law_is_list hc__law_is_list hk__law_is_list
  have b__law_is_list := F__law_is_list.binds (ps := ["_law_told", "_law_due"]) fun _ _ _ _ _ _ us hl => match us, hl with | [_, _], _ => rfl
  have F__law_gaps := fun_mk (st := s__law_gaps) hl__law_gaps hc__law_gaps hk__law_gaps
  have b__law_gaps := F__law_gaps.binds (ps := ["_law_spot", "_law_other", "_law_gap", "_law_span", "_law_bounds_here"]) fun _ _ _ _ _ _ us hl => match us, hl with | [_, _, _, _, _], _ => rfl
  have F_law := fun_mk (st := s_law) hl_law hc_law hk_law
  have b_law := F_law.binds (ps := ["_law_script"]) fun _ _ _ _ _ _ us hl => match us, hl with | [_], _ => rfl
  let D : Ad := {
    a_place_on := x_place_on, d_place_on := PySem.W.fnOf "place_on" "place_on" (defArgs s_place_on) (defBody s_place_on) (defScope s_place_on) .none kV_place_on dc_place_on pm_place_on an_place_on cd_place_on ct_place_on,
    a_as_tuples := x_as_tuples, d_as_tuples := PySem.W.fnOf "as_tuples" "as_tuples" (defArgs s_as_tuples) (defBody s_as_tuples) (defScope s_as_tuples) .none kV_as_tuples dc_as_tuples pm_as_tuples an_as_tuples cd_as_tuples ct_as_tuples,
    a__demand := x__demand, d__demand := PySem.W.fnOf "_demand" "_demand" (defArgs s__demand) (defBody s__demand) (defScope s__demand) .none kV__demand dc__demand pm__demand an__demand cd__demand ct__demand,
    a_remainder_row := x_remainder_row, d_remainder_row := PySem.W.fnOf "remainder_row" "remainder_row" (defArgs s_remainder_row) (defBody s_remainder_row) (defScope s_remainder_row) .none kV_remainder_row dc_remainder_row pm_remainder_row an_remainder_row cd_remainder_row ct_remainder_row,
    a_RemainderTable_init := x_RemainderTable_init, d_RemainderTable_init := PySem.W.fnOf "__init__" "RemainderTable.__init__" (defArgs s_RemainderTable_init) (defBody s_RemainderTable_init) (defScope s_RemainderTable_init) .none kV_RemainderTable_init dc_RemainderTable_init pm_RemainderTable_init an_RemainderTable_init cd_RemainderTable_init ct_RemainderTable_init,
    a__shut_by := x__shut_by, d__shut_by := PySem.W.fnOf "_shut_by" "_shut_by" (defArgs s__shut_by) (defBody s__shut_by) (defScope s__shut_by) .none kV__shut_by dc__shut_by pm__shut_by an__shut_by cd__shut_by ct__shut_by,
    a_shut_lengths := x_shut_lengths, d_shut_lengths := PySem.W.fnOf "shut_lengths" "shut_lengths" (defArgs s_shut_lengths) (defBody s_shut_lengths) (defScope s_shut_lengths) .none kV_shut_lengths dc_shut_lengths pm_shut_lengths an_shut_lengths cd_shut_lengths ct_shut_lengths,
    a__is_shut := x__is_shut, d__is_shut := PySem.W.fnOf "_is_shut" "_is_shut" (defArgs s__is_shut) (defBody s__is_shut) (defScope s__is_shut) .none kV__is_shut dc__is_shut pm__is_shut an__is_shut cd__is_shut ct__is_shut,
    a_judge_table := x_judge_table, d_judge_table := PySem.W.fnOf "judge_table" "judge_table" (defArgs s_judge_table) (defBody s_judge_table) (defScope s_judge_table) .none kV_judge_table dc_judge_table pm_judge_table an_judge_table cd_judge_table ct_judge_table,
    a_gap_places := x_gap_places, d_gap_places := PySem.W.fnOf "gap_places" "gap_places" (defArgs s_gap_places) (defBody s_gap_places) (defScope s_gap_places) .none kV_gap_places dc_gap_places pm_gap_places an_gap_places cd_gap_places ct_gap_places,
    a_possible_gaps := x_possible_gaps, d_possible_gaps := PySem.W.fnOf "possible_gaps" "possible_gaps" (defArgs s_possible_gaps) (defBody s_possible_gaps) (defScope s_possible_gaps) .none kV_possible_gaps dc_possible_gaps pm_possible_gaps an_possible_gaps cd_possible_gaps ct_possible_gaps,
    a__law_box := x__law_box, d__law_box := PySem.W.fnOf "_law_box" "_law_box" (defArgs s__law_box) (defBody s__law_box) (defScope s__law_box) .none kV__law_box dc__law_box pm__law_box an__law_box cd__law_box ct__law_box,
    a__law_draw := x__law_draw, d__law_draw := PySem.W.fnOf "_law_draw" "_law_draw" (defArgs s__law_draw) (defBody s__law_draw) (defScope s__law_draw) .none kV__law_draw dc__law_draw pm__law_draw an__law_draw cd__law_draw ct__law_draw,
    a__law_is_number := x__law_is_number, d__law_is_number := PySem.W.fnOf "_law_is_number" "_law_is_number" (defArgs s__law_is_number) (defBody s__law_is_number) (defScope s__law_is_number) .none kV__law_is_number dc__law_is_number pm__law_is_number an__law_is_number cd__law_is_number ct__law_is_number,
    a__law_sightings := x__law_sightings, d__law_sightings := PySem.W.fnOf "_law_sightings" "_law_sightings" (defArgs s__law_sightings) (defBody s__law_sightings) (defScope s__law_sightings) .none kV__law_sightings dc__law_sightings pm__law_sightings an__law_sightings cd__law_sightings ct__law_sightings,
    a__law_bounds := x__law_bounds, d__law_bounds := PySem.W.fnOf "_law_bounds" "_law_bounds" (defArgs s__law_bounds) (defBody s__law_bounds) (defScope s__law_bounds) .none kV__law_bounds dc__law_bounds pm__law_bounds an__law_bounds cd__law_bounds ct__law_bounds,
    a__law_fits := x__law_fits, d__law_fits := PySem.W.fnOf "_law_fits" "_law_fits" (defArgs s__law_fits) (defBody s__law_fits) (defScope s__law_fits) .none kV__law_fits dc__law_fits pm__law_fits an__law_fits cd__law_fits ct__law_fits,
    a__law_pairs := x__law_pairs, d__law_pairs := PySem.W.fnOf "_law_pairs" "_law_pairs" (defArgs s__law_pairs) (defBody s__law_pairs) (defScope s__law_pairs) .none kV__law_pairs dc__law_pairs pm__law_pairs an__law_pairs cd__law_pairs ct__law_pairs,
    a__law_rows := x__law_rows, d__law_rows := PySem.W.fnOf "_law_rows" "_law_rows" (defArgs s__law_rows) (defBody s__law_rows) (defScope s__law_rows) .none kV__law_rows dc__law_rows pm__law_rows an__law_rows cd__law_rows ct__law_rows,
    a__law_sizes := x__law_sizes, d__law_sizes := PySem.W.fnOf "_law_sizes" "_law_sizes" (defArgs s__law_sizes) (defBody s__law_sizes) (defScope s__law_sizes) .none kV__law_sizes dc__law_sizes pm__law_sizes an__law_sizes cd__law_sizes ct__law_sizes,
    a__law_judged := x__law_judged, d__law_judged := PySem.W.fnOf "_law_judged" "_law_judged" (defArgs s__law_judged) (defBody s__law_judged) (defScope s__law_judged) .none kV__law_judged dc__law_judged pm__law_judged an__law_judged cd__law_judged ct__law_judged,
    a__law_spoilt := x__law_spoilt, d__law_spoilt := PySem.W.fnOf "_law_spoilt" "_law_spoilt" (defArgs s__law_spoilt) (defBody s__law_spoilt) (defScope s__law_spoilt) .none kV__law_spoilt dc__law_spoilt pm__law_spoilt an__law_spoilt cd__law_spoilt ct__law_spoilt,
    a__law_is_table := x__law_is_table, d__law_is_table := PySem.W.fnOf "_law_is_table" "_law_is_table" (defArgs s__law_is_table) (defBody s__law_is_table) (defScope s__law_is_table) .none kV__law_is_table dc__law_is_table pm__law_is_table an__law_is_table cd__law_is_table ct__law_is_table,
    a__law_says := x__law_says, d__law_says := PySem.W.fnOf "_law_says" "_law_says" (defArgs s__law_says) (defBody s__law_says) (defScope s__law_says) .none kV__law_says dc__law_says pm__law_says an__law_says cd__law_says ct__law_says,
    a__law_asked := x__law_asked, d__law_asked := PySem.W.fnOf "_law_asked" "_law_asked" (defArgs s__law_asked) (defBody s__law_asked) (defScope s__law_asked) .none kV__law_asked dc__law_asked pm__law_asked an__law_asked cd__law_asked ct__law_asked,
    a__law_good := x__law_good, d__law_good := PySem.W.fnOf "_law_good" "_law_good" (defArgs s__law_good) (defBody s__law_good) (defScope s__law_good) .none kV__law_good dc__law_good pm__law_good an__law_good cd__law_good ct__law_good,
    a__law_tables := x__law_tables, d__law_tables := PySem.W.fnOf "_law_tables" "_law_tables" (defArgs s__law_tables) (defBody s__law_tables) (defScope s__law_tables) .none kV__law_tables dc__law_tables pm__law_tables an__law_tables cd__law_tables ct__law_tables,
    a__law_reached := x__law_reached, d__law_reached := PySem.W.fnOf "_law_reached" "_law_reached" (defArgs s__law_reached) (defBody s__law_reached) (defScope s__law_reached) .none kV__law_reached dc__law_reached pm__law_reached an__law_reached cd__law_reached ct__law_reached,
    a__law_is_list := x__law_is_list, d__law_is_list := PySem.W.fnOf "_law_is_list" "_law_is_list" (defArgs s__law_is_list) (defBody s__law_is_list) (defScope s__law_is_list) .none kV__law_is_list dc__law_is_list pm__law_is_list an__law_is_list cd__law_is_list ct__law_is_list,
    a__law_gaps := x__law_gaps, d__law_gaps := PySem.W.fnOf "_law_gaps" "_law_gaps" (defArgs s__law_gaps) (defBody s__law_gaps) (defScope s__law_gaps) .none kV__law_gaps dc__law_gaps pm__law_gaps an__law_gaps cd__law_gaps ct__law_gaps,
    a_law := fa, d_law := PySem.W.fnOf "law" "law" (defArgs s_law) (defBody s_law) (defScope s_law) .none kV_law dc_law pm_law an_law cd_law ct_law,
    c_RemainderTable := x_RemainderTable }
  have T : Txt K mg D := { F_place_on := F_place_on, b_place_on := b_place_on, g_place_on := PySem.W.mg_of X G ha_place_on, F_as_tuples := F_as_tuples, b_as_tuples := b_as_tuples, g_as_tuples := PySem.W.mg_of X G ha_as_tuples, F__demand := F__demand, b__demand := b__demand, g__demand := PySem.W.mg_of X G ha__demand, F_remainder_row := F_remainder_row, b_remainder_row := b_remainder_row, g_remainder_row := PySem.W.mg_of X G ha_remainder_row, F_RemainderTable_init := F_RemainderTable_init, b_RemainderTable_init := b_RemainderTable_init, m_RemainderTable_init := ha_RemainderTable_init, i_RemainderTable_init := hi_RemainderTable_init, F__shut_by := F__shut_by, b__shut_by := b__shut_by, g__shut_by := PySem.W.mg_of X G ha__shut_by, F_shut_lengths := F_shut_lengths, b_shut_lengths := b_shut_lengths, g_shut_lengths := PySem.W.mg_of X G ha_shut_lengths, F__is_shut := F__is_shut, b__is_shut := b__is_shut, g__is_shut := PySem.W.mg_of X G ha__is_shut, F_judge_table := F_judge_table, b_judge_table := b_judge_table, g_judge_table := PySem.W.mg_of X G ha_judge_table, F_gap_places := F_gap_places, b_gap_places := b_gap_places, g_gap_places := PySem.W.mg_of X G ha_gap_places, F_possible_gaps := F_possible_gaps, b_possible_gaps := b_possible_gaps, g_possible_gaps := PySem.W.mg_of X G ha_possible_gaps, F__law_box := F__law_box, b__law_box := b__law_box, g__law_box := PySem.W.mg_of X G ha__law_box, F__law_draw := F__law_draw, b__law_draw := b__law_draw, g__law_draw := PySem.W.mg_of X G ha__law_draw, F__law_is_number := F__law_is_number, b__law_is_number := b__law_is_number, g__law_is_number := PySem.W.mg_of X G ha__law_is_number, F__law_sightings := F__law_sightings, b__law_sightings := b__law_sightings, g__law_sightings := PySem.W.mg_of X G ha__law_sightings, F__law_bounds := F__law_bounds, b__law_bounds := b__law_bounds, g__law_bounds := PySem.W.mg_of X G ha__law_bounds, F__law_fits := F__law_fits, b__law_fits := b__law_fits, g__law_fits := PySem.W.mg_of X G ha__law_fits, F__law_pairs := F__law_pairs, b__law_pairs := b__law_pairs, g__law_pairs := PySem.W.mg_of X G ha__law_pairs, F__law_rows := F__law_rows, b__law_rows := b__law_rows, g__law_rows := PySem.W.mg_of X G ha__law_rows, F__law_sizes := F__law_sizes, b__law_sizes := b__law_sizes, g__law_sizes := PySem.W.mg_of X G ha__law_sizes, F__law_judged := F__law_judged, b__law_judged := b__law_judged, g__law_judged := PySem.W.mg_of X G ha__law_judged, F__law_spoilt := F__law_spoilt, b__law_spoilt := b__law_spoilt, g__law_spoilt := PySem.W.mg_of X G ha__law_spoilt, F__law_is_table := F__law_is_table, b__law_is_table := b__law_is_table, g__law_is_table := PySem.W.mg_of X G ha__law_is_table, F__law_says := F__law_says, b__law_says := b__law_says, g__law_says := PySem.W.mg_of X G ha__law_says, F__law_asked := F__law_asked, b__law_asked := b__law_asked, g__law_asked := PySem.W.mg_of X G ha__law_asked, F__law_good := F__law_good, b__law_good := b__law_good, g__law_good := PySem.W.mg_of X G ha__law_good, F__law_tables := F__law_tables, b__law_tables := b__law_tables, g__law_tables := PySem.W.mg_of X G ha__law_tables, F__law_reached := F__law_reached, b__law_reached := b__law_reached, g__law_reached := PySem.W.mg_of X G ha__law_reached, F__law_is_list := F__law_is_list, b__law_is_list := b__law_is_list, g__law_is_list := PySem.W.mg_of X G ha__law_is_list, F__law_gaps := F__law_gaps, b__law_gaps := b__law_gaps, g__law_gaps := PySem.W.mg_of X G ha__law_gaps, F_law := F_law, b_law := b_law, g_law := PySem.W.mg_of X G ha_law, g_RemainderTable := PySem.W.mg_of X G hC_RemainderTable, k_RemainderTable := hK_RemainderTable, n_ValueError := PySem.W.mg_none_of X G hn_ValueError, n_abs := PySem.W.mg_none_of X G hn_abs, n_all := PySem.W.mg_none_of X G hn_all, n_bool := PySem.W.mg_none_of X G hn_bool, n_enumerate := PySem.W.mg_none_of X G hn_enumerate, n_int := PySem.W.mg_none_of X G hn_int, n_isinstance := PySem.W.mg_none_of X G hn_isinstance, n_len := PySem.W.mg_none_of X G hn_len, n_list := PySem.W.mg_none_of X G hn_list, n_max := PySem.W.mg_none_of X G hn_max, n_min := PySem.W.mg_none_of X G hn_min, n_range := PySem.W.mg_none_of X G hn_range, n_set := PySem.W.mg_none_of X G hn_set, n_sorted := PySem.W.mg_none_of X G hn_sorted, n_tuple := PySem.W.mg_none_of X G hn_tuple, cn_ := hx_cn_, ct_ := hx_ct_, ymk_RemainderTable := hx_ymk_RemainderTable, ypg_RemainderTable := hx_ypg_RemainderTable, yhd_RemainderTable := hx_yhd_RemainderTable, ypo_RemainderTable := hx_ypo_RemainderTable, ysa_RemainderTable := hx_ysa_RemainderTable, ysf_RemainderTable := hx_ysf_RemainderTable, yca_RemainderTable := hx_yca_RemainderTable, ymo_RemainderTable := hx_ymo_RemainderTable, zo_RemainderTable_RemainderTable := hx_zo_RemainderTable_RemainderTable, zo_RemainderTable_bool := hx_zo_RemainderTable_bool, zo_RemainderTable_int := hx_zo_RemainderTable_int, zo_RemainderTable_list := hx_zo_RemainderTable_list, zo_RemainderTable_tuple := hx_zo_RemainderTable_tuple, no_RemainderTable_rows := hx_no_RemainderTable_rows }
  exact ⟨D.d_law, fun s v => .of_eq rfl, fun base _ _ => ok_law (D := D) T⟩
end
theorem walk {l : PySem.W.OpenLaw} {q : Program} {loose : List Str} {XP : (Str → Option Value) → Heap → Prop} {YP : World → Heap → Prop} {d : DefRec} {K : Params → PySem.W.Frag} (hn : l.most = some 63) (hdf : d.params.defaults = [])
    (hY : ∀ (w : World) (h : Heap), YP w h → (K w.params).In h)
    (F : ∀ (w : World) (mg : Str → Option Value) (fa : Addr) (h : Heap), (K w.params).In h → h.Ns mainGlobals mg → mg d.name = some (.ref fa) →
      ∃ fd : FuncData, (∀ (s : Shared) (u : Value), BindsTo s fd ⟨[u], []⟩ [("_law_script", u)]) ∧ ∀ base : Heap, (K w.params).In base → base.Ns mainGlobals mg → FnOk l.prog w (K w.params) mg base CX0 21 fa fd ["_law_script"] (spLaw (K w.params))) :
    PySem.W.WalkO q loose XP YP l.row.toRowW d [] (fun f vs => PySem.call f vs) :=
  L2.walk_of (n := 63) (k := 21) (x := "_law_script") (CX := fun _ => CX0) (sp := fun w => spLaw (K w.params)) hn (by decide) hdf ⟨rfl, by decide, by decide⟩ hY F (fun _ _ a ns hl _ hS => ⟨a, ns, rfl, hS, hl, fun _ => rfl⟩) fun _ _ _ _ _ z => z
end Toy

open PySem PySem.W PyProof.Rows in
set_option maxRecDepth 100000 in
set_option maxHeartbeats 0 in
theorem PySem.Challenge.cw_fittingpasts_k06_remainder_tables_holds : PySem.Challenge.rw_fittingpasts_k06_remainder_tables.Holds := by
  w_on; o_law; k_head; (case hw => w_witness2)
  k_fill
  refine Toy.walk (l := PySem.Challenge.rw_fittingpasts_k06_remainder_tables) rfl rfl (fun w h Y => PySem.W.kIn_of Y) ?F
  case F =>
    intro w mg fa h KX G hmg
    refine' Toy.all_mk KX G hmg ?hC_RemainderTable ?hK_RemainderTable ?ha_place_on ?hl_place_on ?hc_place_on ?hk_place_on ?ha_as_tuples ?hl_as_tuples ?hc_as_tuples ?hk_as_tuples ?ha__demand ?hl__demand ?hc__demand ?hk__demand ?ha_remainder_row ?hl_remainder_row ?hc_remainder_row ?hk_remainder_row ?ha_RemainderTable_init ?hi_RemainderTable_init ?hl_RemainderTable_init ?hc_RemainderTable_init ?hk_RemainderTable_init ?ha__shut_by ?hl__shut_by ?hc__shut_by ?hk__shut_by ?ha_shut_lengths ?hl_shut_lengths ?hc_shut_lengths ?hk_shut_lengths ?ha__is_shut ?hl__is_shut ?hc__is_shut ?hk__is_shut ?ha_judge_table ?hl_judge_table ?hc_judge_table ?hk_judge_table ?ha_gap_places ?hl_gap_places ?hc_gap_places ?hk_gap_places ?ha_possible_gaps ?hl_possible_gaps ?hc_possible_gaps ?hk_possible_gaps ?ha__law_box ?hl__law_box ?hc__law_box ?hk__law_box ?ha__law_draw ?hl__law_draw ?hc__law_draw ?hk__law_draw ?ha__law_is_number ?hl__law_is_number ?hc__law_is_number ?hk__law_is_number ?ha__law_sightings ?hl__law_sightings ?hc__law_sightings ?hk__law_sightings ?ha__law_bounds ?hl__law_bounds ?hc__law_bounds ?hk__law_bounds ?ha__law_fits ?hl__law_fits ?hc__law_fits ?hk__law_fits ?ha__law_pairs ?hl__law_pairs ?hc__law_pairs ?hk__law_pairs ?ha__law_rows ?hl__law_rows ?hc__law_rows ?hk__law_rows ?ha__law_sizes ?hl__law_sizes ?hc__law_sizes ?hk__law_sizes ?ha__law_judged ?hl__law_judged ?hc__law_judged ?hk__law_judged ?ha__law_spoilt ?hl__law_spoilt ?hc__law_spoilt ?hk__law_spoilt ?ha__law_is_table ?hl__law_is_table ?hc__law_is_table ?hk__law_is_table ?ha__law_says ?hl__law_says ?hc__law_says ?hk__law_says ?ha__law_asked ?hl__law_asked ?hc__law_asked ?hk__law_asked ?ha__law_good ?hl__law_good ?hc__law_good ?hk__law_good ?ha__law_tables ?hl__law_tables ?hc__law_tables ?hk__law_tables ?ha__law_reached ?hl__law_reached ?hc__law_reached ?hk__law_reached ?ha__law_is_list ?hl__law_is_list ?hc__law_is_list ?hk__law_is_list ?ha__law_gaps ?hl__law_gaps ?hc__law_gaps ?hk__law_gaps ?ha_law ?hl_law ?hc_law ?hk_law ?hn_ValueError ?hn_abs ?hn_all ?hn_bool ?hn_enumerate ?hn_int ?hn_isinstance ?hn_len ?hn_list ?hn_max ?hn_min ?hn_range ?hn_set ?hn_sorted ?hn_tuple ?hx_cn_ ?hx_ct_ ?hx_ymk_RemainderTable ?hx_ypg_RemainderTable ?hx_yhd_RemainderTable ?hx_ypo_RemainderTable ?hx_ysa_RemainderTable ?hx_ysf_RemainderTable ?hx_yca_RemainderTable ?hx_ymo_RemainderTable ?hx_zo_RemainderTable_RemainderTable ?hx_zo_RemainderTable_bool ?hx_zo_RemainderTable_int ?hx_zo_RemainderTable_list ?hx_zo_RemainderTable_tuple ?hx_no_RemainderTable_rows
    (case hC_RemainderTable => first | k_is | rfl | k_exc)
    (case hK_RemainderTable => first | k_is | rfl | k_exc)
    (case ha_place_on => first | k_is | rfl | k_exc)
    (case hl_place_on => first | k_is | rfl | k_exc)
    (case hc_place_on => first | k_is | rfl | k_exc)
    (case hk_place_on => first | k_is | rfl | k_exc)
    (case ha_as_tuples => first | k_is | rfl | k_exc)
    (case hl_as_tuples => first | k_is | rfl | k_exc)
    (case hc_as_tuples => first | k_is | rfl | k_exc)
    (case hk_as_tuples => first | k_is | rfl | k_exc)
    (case ha__demand => first | k_is | rfl | k_exc)
    (case hl__demand => first | k_is | rfl | k_exc)
    (case hc__demand => first | k_is | rfl | k_exc)
    (case hk__demand => first | k_is | rfl | k_exc)
    (case ha_remainder_row => first | k_is | rfl | k_exc)
    (case hl_remainder_row => first | k_is | rfl | k_exc)
    (case hc_remainder_row => first | k_is | rfl | k_exc)
    (case hk_remainder_row => first | k_is | rfl | k_exc)
    (case ha_RemainderTable_init => first | k_is | rfl | k_exc)
    (case hi_RemainderTable_init => first | k_is | rfl | k_exc)
    (case hl_RemainderTable_init => first | k_is | rfl | k_exc)
    (case hc_RemainderTable_init => first | k_is | rfl | k_exc)
    (case hk_RemainderTable_init => first | k_is | rfl | k_exc)
    (case ha__shut_by => first | k_is | rfl | k_exc)
    (case hl__shut_by => first | k_is | rfl | k_exc)
    (case hc__shut_by => first | k_is | rfl | k_exc)
    (case hk__shut_by => first | k_is | rfl | k_exc)
    (case ha_shut_lengths => first | k_is | rfl | k_exc)
    (case hl_shut_lengths => first | k_is | rfl | k_exc)
    (case hc_shut_lengths => first | k_is | rfl | k_exc)
    (case hk_shut_lengths => first | k_is | rfl | k_exc)
    (case ha__is_shut => first | k_is | rfl | k_exc)
    (case hl__is_shut => first | k_is | rfl | k_exc)
    (case hc__is_shut => first | k_is | rfl | k_exc)
    (case hk__is_shut => first | k_is | rfl | k_exc)
    (case ha_judge_table => first | k_is | rfl | k_exc)
    (case hl_judge_table => first | k_is | rfl | k_exc)
    (case hc_judge_table => first | k_is | rfl | k_exc)
    (case hk_judge_table => first | k_is | rfl | k_exc)
    (case ha_gap_places => first | k_is | rfl | k_exc)
    (case hl_gap_places => first | k_is | rfl | k_exc)
    (case hc_gap_places => first | k_is | rfl | k_exc)
    (case hk_gap_places => first | k_is | rfl | k_exc)
    (case ha_possible_gaps => first | k_is | rfl | k_exc)
    (case hl_possible_gaps => first | k_is | rfl | k_exc)
    (case hc_possible_gaps => first | k_is | rfl | k_exc)
    (case hk_possible_gaps => first | k_is | rfl | k_exc)
    (case ha__law_box => first | k_is | rfl | k_exc)
    (case hl__law_box => first | k_is | rfl | k_exc)
    (case hc__law_box => first | k_is | rfl | k_exc)
    (case hk__law_box => first | k_is | rfl | k_exc)
    (case ha__law_draw => first | k_is | rfl | k_exc)
    (case hl__law_draw => first | k_is | rfl | k_exc)
    (case hc__law_draw => first | k_is | rfl | k_exc)
    (case hk__law_draw => first | k_is | rfl | k_exc)
    (case ha__law_is_number => first | k_is | rfl | k_exc)
    (case hl__law_is_number => first | k_is | rfl | k_exc)
    (case hc__law_is_number => first | k_is | rfl | k_exc)
    (case hk__law_is_number => first | k_is | rfl | k_exc)
    (case ha__law_sightings => first | k_is | rfl | k_exc)
    (case hl__law_sightings => first | k_is | rfl | k_exc)
    (case hc__law_sightings => first | k_is | rfl | k_exc)
    (case hk__law_sightings => first | k_is | rfl | k_exc)
    (case ha__law_bounds => first | k_is | rfl | k_exc)
    (case hl__law_bounds => first | k_is | rfl | k_exc)
    (case hc__law_bounds => first | k_is | rfl | k_exc)
    (case hk__law_bounds => first | k_is | rfl | k_exc)
    (case ha__law_fits => first | k_is | rfl | k_exc)
    (case hl__law_fits => first | k_is | rfl | k_exc)
    (case hc__law_fits => first | k_is | rfl | k_exc)
    (case hk__law_fits => first | k_is | rfl | k_exc)
    (case ha__law_pairs => first | k_is | rfl | k_exc)
    (case hl__law_pairs => first | k_is | rfl | k_exc)
    (case hc__law_pairs => first | k_is | rfl | k_exc)
    (case hk__law_pairs => first | k_is | rfl | k_exc)
    (case ha__law_rows => first | k_is | rfl | k_exc)
    (case hl__law_rows => first | k_is | rfl | k_exc)
    (case hc__law_rows => first | k_is | rfl | k_exc)
    (case hk__law_rows => first | k_is | rfl | k_exc)
    (case ha__law_sizes => first | k_is | rfl | k_exc)
    (case hl__law_sizes => first | k_is | rfl | k_exc)
    (case hc__law_sizes => first | k_is | rfl | k_exc)
    (case hk__law_sizes => first | k_is | rfl | k_exc)
    (case ha__law_judged => first | k_is | rfl | k_exc)
    (case hl__law_judged => first | k_is | rfl | k_exc)
    (case hc__law_judged => first | k_is | rfl | k_exc)
    (case hk__law_judged => first | k_is | rfl | k_exc)
    (case ha__law_spoilt => first | k_is | rfl | k_exc)
    (case hl__law_spoilt => first | k_is | rfl | k_exc)
    (case hc__law_spoilt => first | k_is | rfl | k_exc)
    (case hk__law_spoilt => first | k_is | rfl | k_exc)
    (case ha__law_is_table => first | k_is | rfl | k_exc)
    (case hl__law_is_table => first | k_is | rfl | k_exc)
    (case hc__law_is_table => first | k_is | rfl | k_exc)
    (case hk__law_is_table => first | k_is | rfl | k_exc)
    (case ha__law_says => first | k_is | rfl | k_exc)
    (case hl__law_says => first | k_is | rfl | k_exc)
    (case hc__law_says => first | k_is | rfl | k_exc)
    (case hk__law_says => first | k_is | rfl | k_exc)
    (case ha__law_asked => first | k_is | rfl | k_exc)
    (case hl__law_asked => first | k_is | rfl | k_exc)
    (case hc__law_asked => first | k_is | rfl | k_exc)
    (case hk__law_asked => first | k_is | rfl | k_exc)
    (case ha__law_good => first | k_is | rfl | k_exc)
    (case hl__law_good => first | k_is | rfl | k_exc)
    (case hc__law_good => first | k_is | rfl | k_exc)
    (case hk__law_good => first | k_is | rfl | k_exc)
    (case ha__law_tables => first | k_is | rfl | k_exc)
    (case hl__law_tables => first | k_is | rfl | k_exc)
    (case hc__law_tables => first | k_is | rfl | k_exc)
    (case hk__law_tables => first | k_is | rfl | k_exc)
    (case ha__law_reached => first | k_is | rfl | k_exc)
    (case hl__law_reached => first | k_is | rfl | k_exc)
    (case hc__law_reached => first | k_is | rfl | k_exc)
    (case hk__law_reached => first | k_is | rfl | k_exc)
    (case ha__law_is_list => first | k_is | rfl | k_exc)
    (case hl__law_is_list => first | k_is | rfl | k_exc)
    (case hc__law_is_list => first | k_is | rfl | k_exc)
    (case hk__law_is_list => first | k_is | rfl | k_exc)
    (case ha__law_gaps => first | k_is | rfl | k_exc)
    (case hl__law_gaps => first | k_is | rfl | k_exc)
    (case hc__law_gaps => first | k_is | rfl | k_exc)
    (case hk__law_gaps => first | k_is | rfl | k_exc)
    (case ha_law => first | k_is | rfl | k_exc)
    (case hl_law => first | k_is | rfl | k_exc)
    (case hc_law => first | k_is | rfl | k_exc)
    (case hk_law => first | k_is | rfl | k_exc)
    (case hn_ValueError => first | k_is | rfl | k_exc)
    (case hn_abs => first | k_is | rfl | k_exc)
    (case hn_all => first | k_is | rfl | k_exc)
    (case hn_bool => first | k_is | rfl | k_exc)
    (case hn_enumerate => first | k_is | rfl | k_exc)
    (case hn_int => first | k_is | rfl | k_exc)
    (case hn_isinstance => first | k_is | rfl | k_exc)
    (case hn_len => first | k_is | rfl | k_exc)
    (case hn_list => first | k_is | rfl | k_exc)
    (case hn_max => first | k_is | rfl | k_exc)
    (case hn_min => first | k_is | rfl | k_exc)
    (case hn_range => first | k_is | rfl | k_exc)
    (case hn_set => first | k_is | rfl | k_exc)
    (case hn_sorted => first | k_is | rfl | k_exc)
    (case hn_tuple => first | k_is | rfl | k_exc)
    (case hx_cn_ => first | k_is | rfl | k_exc)
    (case hx_ct_ => first | k_is | rfl | k_exc)
    (case hx_ymk_RemainderTable => first | k_is | rfl | k_exc)
    (case hx_ypg_RemainderTable => first | k_is | rfl | k_exc)
    (case hx_yhd_RemainderTable => first | k_is | rfl | k_exc)
    (case hx_ypo_RemainderTable => first | k_is | rfl | k_exc)
    (case hx_ysa_RemainderTable => first | k_is | rfl | k_exc)
    (case hx_ysf_RemainderTable => first | k_is | rfl | k_exc)
    (case hx_yca_RemainderTable => first | k_is | rfl | k_exc)
    (case hx_ymo_RemainderTable => first | k_is | rfl | k_exc)
    (case hx_zo_RemainderTable_RemainderTable => first | k_is | rfl | k_exc)
    (case hx_zo_RemainderTable_bool => first | k_is | rfl | k_exc)
    (case hx_zo_RemainderTable_int => first | k_is | rfl | k_exc)
    (case hx_zo_RemainderTable_list => first | k_is | rfl | k_exc)
    (case hx_zo_RemainderTable_tuple => first | k_is | rfl | k_exc)
    (case hx_no_RemainderTable_rows => first | k_is | rfl | k_exc)
