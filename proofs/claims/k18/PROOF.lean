import PyProof.Rows.All
import Wide.All
import OpenK.AllK
import Wide.FinOn
import PyProof.EqAt
import PyProof.EqKinds
import PyProof.TupleCall
import PyProof.InstNe
import KE.KOpsOwn
import HandS.Base
import HandS.Call
import HandS.List
import HandS.More
import PyProof.TwoTypesSub
import PyProof.AutoIntOps
import PyProof.StrReplace2
import HandS.Words
import HandS.Star
import HandS.IsInst
import HandS.Defaults
import HandS.Property
import HandS.OwnEq
import HandS.Lambda
import HandS.Ends
import PyProof.ReprRoads
import HandS.ExcInit
import HandS.ExcField
import HandS.CallSlots
import HandS.ForExc
import HandS.ExcIs
import KE.KExcIs
import HandS.EndTab
import HandS.MakeKwOnly
import HandS.FStr
import KE.KCallOwn
import HandS.RaiseMore
import HandS.ExcInitHot
import HandS.ExcValue
import HandS.Walk
import HandS.ForMost
import HandS.StrMore
import HandS.ClsMeth
import OpenK.KMeth
import KE.GoesMore
import HandS.Codes
import PyProof.StrBlock2
import HandS.TryMany
import HandS.Zip
import KE.GoesZip
import HandS.Deep
import HandS.TupMul
import HandS.Wide
import HandS.Text
import HandS.Style
import PySem.Challenge.RW_heldfloods_k18_pictures_refused
set_option Elab.async false
set_option linter.all false
set_option maxRecDepth 100000
section
set_option maxHeartbeats 4000000
/-! Operators that an own class defines, over instances that are tracked. -/
namespace Ow
open PySem PySem.Spec PyProof.Rows L2

/-- an instance of the class at C stands at a -/
def InsAt (H : Hp) (a C : Addr) : Prop := ∃ dx fs, H a = some (.ins C dx fs)

section
variable {X : Cx} {CX : CXT} {n : Nat} {C g : Addr} {sp : Sp} {E : XK}

theorem inst_of {pins : List (Addr × Obj)} {σ : L2.St} {H : Hp} {s : Shared} {a : Addr} (I : Inv X pins σ H s) (h : InsAt H a C) : ∃ ox od, PySem.W.InstAt s.heap a ox C od := by
  obtain ⟨dx, fs, ea⟩ := h
  obtain ⟨mA, O, _⟩ := ins_get I.hok ea
  obtain ⟨od, J, _⟩ := O.look
  exact ⟨_, _, J⟩

theorem cmpbackR {Q : Value → Shared → Prop} {v : V} {u : Value} {s : Shared} (r : RelV v u) (q : Q u s) : PySem.W.CmpBack Q u s := by
  cases v <;> first
    | (cases r; exact q)
    | (obtain ⟨t, rfl⟩ := r; exact q)

/-- x op y, both instances of C -/
def rBin (C : Addr) (sp : Sp) (E : XK) : R2 := fun x y H Q => ∃ a b, x = .ref a ∧ y = .ref b ∧ InsAt H a C ∧ InsAt H b C ∧ sp [x, y] H Q E
theorem op_bin {op : Operator} (hc : PySem.W.selfFirst X.K C = true) (hs : PySem.W.findIn X.K (.ref C) (PySem.dunder op.info.2) = some (some (.ref g))) (hf : PySem.W.isFn X.K (.ref g) = true)
    (F : FnR X.prog X.w X.K X.mg X.base CX n g sp) (hr : Room n X.A) (hx : Passes CX X E) : OpR X (binaryOp op) (rBin C sp E) := by
  intro pins s σ H x y v u Q I rx ry h
  obtain ⟨a, b, rfl, rfl, ha, hb, q⟩ := h
  cases (show v = Value.ref a from rx)
  cases (show u = Value.ref b from ry)
  obtain ⟨ox, od, J⟩ := inst_of I ha
  obtain ⟨oy, od', J'⟩ := inst_of I hb
  obtain ⟨m, hF⟩ := I.fr
  refine PySem.W.binop_K (op := op) hF I.ok.mod.kin J J'.type hc hs hf ?_
  refine wpAny_mono (wpAny_call (run_fnR (us := [.ref a, .ref b]) (vs := [.ref a, .ref b]) F hr hx I (.cons rfl (.cons rfl .nil)) q)) (fun w s' z => ?_) fun _ _ x => x
  obtain ⟨z', H', I', rz, qz⟩ := z
  exact cmpbackR rz ⟨z', H', I', rz, qz⟩

/-- x op n, an instance of C and an int -/
def rBinI (C : Addr) (sp : Sp) (E : XK) : R2 := fun x y H Q => ∃ a i, x = .ref a ∧ y = .int i ∧ InsAt H a C ∧ sp [x, y] H Q E
theorem op_binI {op : Operator} {fo ro rc : Option Value} (hc : PySem.W.selfFirst X.K C = true) (hs : PySem.W.findIn X.K (.ref C) (PySem.dunder op.info.2) = some (some (.ref g))) (hf : PySem.W.isFn X.K (.ref g) = true)
    (hrr : PySem.W.findIn X.K (.ref C) (dunderR op.info.2) = some rc) (hp : rc = none ∨ ∃ g : Addr, rc = some (.ref g))
    (h1 : PySem.W.findIn X.K (.type "int") (PySem.dunder op.info.2) = some fo) (h2 : PySem.W.findIn X.K (.type "int") (dunderR op.info.2) = some ro) (hsub : PySem.W.subIn X.K (.type "int") (.ref C) = some false)
    (F : FnR X.prog X.w X.K X.mg X.base CX n g sp) (hr : Room n X.A) (hx : Passes CX X E) : OpR X (binaryOp op) (rBinI C sp E) := by
  intro pins s σ H x y v u Q I rx ry h
  obtain ⟨a, i, rfl, rfl, ha, q⟩ := h
  cases (show v = Value.ref a from rx)
  obtain ⟨t, rfl⟩ := ry
  obtain ⟨ox, od, J⟩ := inst_of I ha
  obtain ⟨m, hF⟩ := I.fr
  refine PySem.W.ksp_binT (op := op) (T := "int") hF I.ok.mod.kin J rfl hc hs hf hrr hp h1 h2 hsub ?_
  refine wpAny_mono (wpAny_call (run_fnR (us := [.ref a, .int i t]) (vs := [.ref a, .int i]) F hr hx I (.cons rfl (.cons ⟨t, rfl⟩ .nil)) q)) (fun w s' z => ?_) fun _ _ x => x
  obtain ⟨z', H', I', rz, qz⟩ := z
  exact cmpbackR rz ⟨z', H', I', rz, qz⟩

/-- ~x -/
def rUn (C : Addr) (sp : Sp) (E : XK) : V → Hp → VK → Prop := fun x H Q => ∃ a, x = .ref a ∧ InsAt H a C ∧ sp [x] H Q E
theorem un_inv_own (hs : PySem.W.findIn X.K (.ref C) "__invert__" = some (some (.ref g))) (hf : PySem.W.isFn X.K (.ref g) = true)
    (F : FnR X.prog X.w X.K X.mg X.base CX n g sp) (hr : Room n X.A) (hx : Passes CX X E) : UnR X (unaryOp .Invert) (rUn C sp E) := by
  intro pins s σ H x v Q I rx h
  obtain ⟨a, rfl, ha, q⟩ := h
  cases (show v = Value.ref a from rx)
  obtain ⟨ox, od, J⟩ := inst_of I ha
  obtain ⟨m, hF⟩ := I.fr
  refine PySem.W.ksp_inv hF I.ok.mod.kin J hs hf ?_
  exact wpAny_call (run_fnR (us := [.ref a]) (vs := [.ref a]) F hr hx I (.cons rfl .nil) q)

/-- x op y, a comparison whose def stands at g; y an instance of C too -/
theorem op_cmp {op : CmpOp} (hop : ∀ a b, compareOp op a b = richCompare op a b) (hs : PySem.W.findIn X.K (.ref C) (cmpInfo op).2.1 = some (some (.ref g))) (hf : PySem.W.isFn X.K (.ref g) = true) (hn : PySem.W.notFirst X.K C (.ref C) = true)
    (F : FnR X.prog X.w X.K X.mg X.base CX n g sp) (hr : Room n X.A) (hx : Passes CX X E) : OpR X (compareOp op) (rBin C sp E) := by
  intro pins s σ H x y v u Q I rx ry h
  obtain ⟨a, b, rfl, rfl, ha, hb, q⟩ := h
  cases (show v = Value.ref a from rx)
  cases (show u = Value.ref b from ry)
  obtain ⟨ox, od, J⟩ := inst_of I ha
  obtain ⟨oy, od', J'⟩ := inst_of I hb
  obtain ⟨m, hF⟩ := I.fr
  rw [hop]
  refine PySem.W.cmp_K (op := op) (tb := .ref C) hr.units0 hF I.ok.mod.kin J J'.type hn hs hf ?_
  refine wpAny_mono (wpAny_call (run_fnR (us := [.ref a, .ref b]) (vs := [.ref a, .ref b]) F hr hx I (.cons rfl (.cons rfl .nil)) q)) (fun w s' z => ?_) fun _ _ x => x
  obtain ⟨z', H', I', rz, qz⟩ := z
  exact cmpbackR rz ⟨z', H', I', rz, qz⟩
end
end Ow
end
section
set_option maxHeartbeats 4000000
namespace Ow
open PySem PySem.Spec PyProof.Rows L2 PySem.W

section
variable {prog : Program} {w : World} {M : Model} {A : Around} {E : Value → Shared → Prop} {s : Shared} {K : Frag} {x C L f : Addr} {h₀ : Heap} {m : Str → Option Value} {ox : Obj} {od : Option Obj} {nm : String}

theorem add_ref_at {i : Int} {t : Tok} {x C dx : Addr} : GivesAt (fun s => s.heap.get? x = some (instObj C dx)) (Builtin.«int.__add__» ⟨[.int i t, .ref x], []⟩) (.val Value.notImplemented) := by
  intro prog w A R s hx h
  obtain ⟨hp, g, d, tk, os⟩ := s
  have hl : ∀ {M : Model} {A : Around} {E : Value → Shared → Prop} {Q : Option Int → Shared → Prop}, Q none ⟨hp, g, d, tk, os⟩ → wpAny M A (asInt? (.ref x)) Q E ⟨hp, g, d, tk, os⟩ := by
    intro M A E Q q
    unfold asInt?
    exact wpAny_bind (wpAny_load hx (wpAny_pure q))
  unfold Builtin.«int.__add__»
  wp_walk using hl
  exact h
theorem int_add_ref {i : Int} {t : Tok} {x C dx : Addr} {s : Shared} {Q : Value → Shared → Prop} (hx : s.heap.get? x = some (instObj C dx)) (h : Q .notImplemented s) :
    wpAny (model prog w) A (call (.builtin "int.__add__") [.int i t, .ref x]) Q E s :=
  call_givesAt F.slot_int_add (typeIs_int s i t) F.entry_int_add (F.args_int_add_2 _ _) add_ref_at hx h
theorem int_add_own {i : Int} {t : Tok} {x C dx f fa : Addr} {cd : ClassData} {rest : List Value} {Q : Value → Shared → Prop} (X : K.In s.heap) (hx : s.heap.get? x = some (instObj C dx)) (I : InstAt s.heap x ox C od) (hcd : clsIn K C = some cd) (hm : cd.mro = .ref C :: rest)
    (ha : findIn K (.ref C) (PySem.dunder "add") = some (some (.ref fa))) (hs : findIn K (.ref C) (dunderR "add") = some (some (.ref f))) (hf : isFn K (.ref f) = true) (hsub : subIn K (.ref C) (.type "int") = some false)
    (h : wpAny (model prog w) A (call (.ref f) [.ref x, .int i t]) (PySem.W.CmpBack Q) E s) : wpAny (model prog w) A (binaryOp .Add (.int i t) (.ref x)) Q E s := by
  have one := ksp_try X I hs hf h
  have two : ∀ {Q' : Option Value → Shared → Prop}, Q' none s → wpAny (model prog w) A (tryMethod (.int i t) (PySem.dunder "add") (.ref x)) Q' E s := by
    intro Q' q
    unfold tryMethod
    exact wpAny_bind (wpAny_callSpecial?_slot (typeIs_int s i t) F.slot_int_add (int_add_ref hx (wpAny_pure q)))
  obtain ⟨hh, g, d, tt, os⟩ := s
  have L1 : Looks (model prog w) hh (typeOf (.int i t)) (.type "int") := Looks.of_pure rfl
  have L2 : Looks (model prog w) hh (typeOf (.ref x)) (.ref C) := I.type
  have L3 : Looks (model prog w) hh (fillsNumberSlot (.type "int") "add") true := Looks.of_pure F.fills_int_add
  have L4 : Looks (model prog w) hh (fillsNumberSlot (.ref C) "add") true := fills_K X hcd hm ha
  have L5 : Looks (model prog w) hh (isSubtype (.ref C) (.type "int")) false := looks_subIn X hsub
  have L7 : Looks (model prog w) hh (numberSlotInPython (.type "int") "add") false := Looks.of_pure rfl
  have hne : (Value.type "int" == Value.ref C) = false := Bool.eq_false_iff.mpr fun q => by cases beq_iff_eq.mp q
  show wpAny (model prog w) A (binaryOp .Add (.int i t) (.ref x)) Q E _
  have hi : Operator.info .Add = ("+", "add") := rfl
  simp only [binaryOp, hi]
  refine wpAny_holding (wpAny_bind ?_)
  unfold binaryOp1
  refine wpAny_bind (L1.at (wpAny_bind (L2.at (wpAny_bind (L3.at ?_)))))
  simp only [hne, Bool.false_eq_true, if_false]
  ksp_lk
  refine two ?_
  ksp_lk
  refine wpAny_mono one (fun r s' hr' => ?_) fun _ _ e => e
  obtain ⟨v, rfl, hq⟩ := hr'
  ksp_lk
  exact hq
end
end Ow
end
section
set_option maxHeartbeats 4000000
namespace Ow
open PySem PySem.Spec PyProof.Rows L2 PySem.W

section
variable {prog : Program} {w : World} {M : Model} {A : Around} {E : Value → Shared → Prop} {s : Shared} {K : Frag} {x C L f : Addr} {h₀ : Heap} {m : Str → Option Value} {ox : Obj} {od : Option Obj} {nm T : String}
/-- no += of one's own: C over object alone -/
theorem noI_own {h : Heap} {cd : ClassData} {add : Bool} (X : K.In h) (hc : clsIn K C = some cd) (hm : cd.mro = [.ref C, .type "object"]) (hs : findIn K (.ref C) (dunderI nm) = some none)
    (ho : typeLookup (.type "object") (dunderI nm) = pure none) : Looks M h (fillsInplaceSlot (.ref C) nm add) false := by
  intro A Q E s k q
  have Lm : Looks M h (mroOf (.ref C)) cd.mro := (looks_clsIn X hc).andThen (f := fun cd => pure cd.mro) .now
  have Lm' := Lm.keeps k
  obtain ⟨hh, g, d, tt, os⟩ := s
  have X' : K.In hh := X.keeps k
  have L1 : Looks M hh (typeLookup (.ref C) (dunderI nm)) none := looks_findIn X' hs
  have L2 : Looks M hh (typeLookup (.type "object") (dunderI nm)) none := Looks.of_pure ho
  unfold fillsInplaceSlot
  refine wpAny_bind (Lm'.at ?_)
  rw [hm, List.anyM_cons]
  refine wpAny_bind (wpAny_bind (L1.at ?_))
  refine wpAny_pure ?_
  simp only [Bool.false_eq_true, if_false]
  rw [List.anyM_cons]
  refine wpAny_bind (wpAny_bind (L2.at ?_))
  refine wpAny_pure ?_
  simp only [Bool.false_eq_true, if_false]
  exact wpAny_pure q

theorem iadd_own {op : Operator} {b : Value} {cd : ClassData} {fo ro rc : Option Value} {Q : Value → Shared → Prop} (X : K.In s.heap) (I : InstAt s.heap x ox C od) (hb : typeOf b = pure (.type T)) (hcd : clsIn K C = some cd) (hm : cd.mro = [.ref C, .type "object"])
    (hni : findIn K (.ref C) (dunderI op.info.2) = some none) (hno : typeLookup (.type "object") (dunderI op.info.2) = pure none)
    (hs : findIn K (.ref C) (PySem.dunder op.info.2) = some (some (.ref f))) (hf : isFn K (.ref f) = true) (hr : findIn K (.ref C) (dunderR op.info.2) = some rc) (hp : rc = none ∨ ∃ g : Addr, rc = some (.ref g))
    (h1 : findIn K (.type T) (PySem.dunder op.info.2) = some fo) (h2 : findIn K (.type T) (dunderR op.info.2) = some ro) (hsub : subIn K (.type T) (.ref C) = some false)
    (h : wpAny (model prog w) A (call (.ref f) [.ref x, b]) (PySem.W.CmpBack Q) E s) : wpAny (model prog w) A (inplaceOp op (.ref x) b) Q E s := by
  rcases hi : op.info with ⟨sym, nm'⟩
  rw [hi] at hs hr h1 h2 hni hno
  dsimp only at hs hr h1 h2 hni hno
  have one := ksp_try X I hs hf h
  obtain ⟨hh, g, d, tt, os⟩ := s
  have L0 : Looks (model prog w) hh (fillsInplaceSlot (.ref C) nm' (op == .Add)) false := noI_own X hcd hm hni hno
  have L1 : Looks (model prog w) hh (typeOf (.ref x)) (.ref C) := I.type
  have L2 : Looks (model prog w) hh (typeOf b) (.type T) := Looks.of_pure hb
  have L3 : Looks (model prog w) hh (fillsNumberSlot (.ref C) nm') true := fills_K X hcd hm hs
  have L4 : Looks (model prog w) hh (fillsNumberSlot (.type T) nm') ((fo.isSome && !isSeqSlot fo) || (ro.isSome && !isSeqSlot ro)) := ksp_fillsT X h1 h2
  have L5 : Looks (model prog w) hh (isSubtype (.type T) (.ref C)) false := looks_subIn X hsub
  have L6 : Looks (model prog w) hh (numberSlotInPython (.ref C) nm') true := ksp_inPy X hs hr hp
  have L7 : Looks (model prog w) hh (numberSlotInPython (.type T) nm') false := Looks.of_pure rfl
  have L8 : Looks (model prog w) hh (typeLookup (.type T) (dunderR nm')) ro := looks_findIn X h2
  generalize ((fo.isSome && !isSeqSlot fo) || (ro.isSome && !isSeqSlot ro)) = right at L4
  have hne : (Value.ref C == Value.type T) = false := Bool.eq_false_iff.mpr fun q => by cases beq_iff_eq.mp q
  unfold inplaceOp
  simp only [hi]
  refine wpAny_holding (wpAny_bind (L1.at (wpAny_bind (L0.at ?_))))
  simp only [Bool.false_eq_true, if_false]
  refine wpAny_bind ?_
  unfold binaryOp1
  refine wpAny_bind (L1.at (wpAny_bind (L2.at (wpAny_bind (L3.at ?_)))))
  simp only [hne, Bool.false_eq_true, if_false]
  cases right with
  | false =>
    ksp_lk
    refine wpAny_mono one (fun r s' hr' => ?_) fun _ _ e => e
    obtain ⟨v, rfl, hq⟩ := hr'
    ksp_lk
    exact hq
  | true =>
    ksp_lk
    refine wpAny_mono one (fun r s' hr' => ?_) fun _ _ e => e
    obtain ⟨v, rfl, hq⟩ := hr'
    ksp_lk
    exact hq
end
end Ow
end
section
set_option maxHeartbeats 4000000
namespace Ow
open PySem PySem.Spec PyProof.Rows L2 PySem.W

section
variable {prog : Program} {w : World} {M : Model} {A : Around} {E : Value → Shared → Prop} {s : Shared} {K : Frag} {x y C L f : Addr} {ox oy : Obj} {od od' : Option Obj}

theorem objNe_K {Q : PySem.Fin → Shared → Prop} (X : K.In s.heap) (I : InstAt s.heap x ox C od) (hs : findIn K (.ref C) "__eq__" = some (some (.ref f))) (hf : isFn K (.ref f) = true) (hu : A.units < cLine)
    (hcall : wpAny (model prog w) A (call (.ref f) [.ref x, .ref y]) (fun v s' => ∃ b, v = .bool b ∧ Q (.done (.ret (.bool (!b)))) s') E s) :
    wpAny (model prog w) A (Builtin.«object.__ne__» ⟨[.ref x, .ref y], []⟩) Q E s := by
  unfold Builtin.«object.__ne__»
  repeat (first
    | with_reducible refine wpAny_cRoomFor hu ?_
    | (refine wpAny_bind (m := callSpecialIfBound? (.ref x) (Str.ofString "__eq__") [.ref y])
        (ifBound_K X I hs hf (wpAny_mono hcall (fun r s' hr => by
          obtain ⟨b, rfl, hq⟩ := hr
          repeat (first | exact hq | exact wpAny_pure hq | exact wpAny_truthy_bool hq | (refine wpAny_bind (m := truthy (.bool _)) (wpAny_truthy_bool ?_)) | wp_step)) fun _ _ e => e)))
    | wp_step)

theorem check_K {id owner n : String} {rest : List Value} {Q : Unit → Shared → Prop} (X : K.In s.heap) (I : InstAt s.heap x ox C od) (hk : builtinKind id = some .slot) (hs : splitId id = some (owner, n))
    (ha : argsOk id ⟨.ref x :: rest, []⟩) (hob : subIn K (.ref C) (.type owner) = some true) (hq : Q () s) :
    wpAny M A (checkBuiltinCall id ⟨.ref x :: rest, []⟩) Q E s := by
  obtain ⟨h, g, d, t, os⟩ := s
  have Ls : Looks M h (isSubtype (.ref C) (.type owner)) true := looks_subIn X hob
  have hx := I.at_
  have hc := I.cls
  have X0 := X
  simp only [checkBuiltinCall, hk, hs]
  refine wpAny_bind ?_
  unfold isInstance
  repeat (first | (with_reducible refine wpAny_loadPart_at hx ?_; rw [hc]) | (with_reducible refine Ls.here ?_) | wp_step)
  cases hsig : Manifest.signature? id with
  | none => exact wpAny_pure hq
  | some sig =>
    simp only [argsOk, hsig] at ha
    have h2 : Bind.checkArgs id sig ⟨.ref x :: rest, []⟩ = pure () := ha
    show wpAny M A (Bind.checkArgs id sig ⟨.ref x :: rest, []⟩) Q E _
    rw [h2]; exact wpAny_pure hq

theorem ne_own {Q : Value → Shared → Prop} (hu : A.units + 1 < cLine) (X : K.In s.heap) (I : InstAt s.heap x ox C od) (J : InstAt s.heap y oy C od') (hne : findIn K (.ref C) "__ne__" = some (some (.builtin "object.__ne__")))
    (hs : findIn K (.ref C) "__eq__" = some (some (.ref f))) (hf : isFn K (.ref f) = true) (hob : subIn K (.ref C) (.type "object") = some true)
    (hcall : wpAny (model prog w) A.in1 (call (.ref f) [.ref x, .ref y]) (fun v s' => ∃ b, v = .bool b ∧ Q (.bool (!b)) s') E s) :
    wpAny (model prog w) A (compareOp .NotEq (.ref x) (.ref y)) Q E s := by
  have S := F.cmp_object.ne
  have one : wpAny (model prog w) A (tryCompare (.ref x) "__ne__" (.ref y)) (fun r s' => ∃ v, r = some v ∧ Q v s') E s := by
    unfold tryCompare
    refine wpAny_bind ?_
    simp only [callSpecialIfBound?, bindSpecialIfBound?]
    refine wpAny_holding (wpAny_bind (wpAny_bind (wpAny_bind (I.type.here ((looks_findIn X hne).here ?_)))))
    simp only [S.bind]
    have fin : ∀ {R : Option Value → Shared → Prop}, (∀ b s', Q (.bool (!b)) s' → R (some (.bool (!b))) s') → wpAny (model prog w) A (call (.builtin "object.__ne__") ([.ref x] ++ [.ref y]) >>= fun v => pure (some v)) R E s := by
      intro R hR
      refine wpAny_bind (wpAny_call (codeAny_call_builtin S.plain F.cmpEntry_ne (check_K X I F.cmpKind_ne F.cmpSplit_ne (F.cmpArgs_ne _ _) hob (objNe_K (A := A.in1) X I hs hf hu (wpAny_mono hcall (fun v s' hv => ?_) fun _ _ e => e)))))
      obtain ⟨b, rfl, hq⟩ := hv
      exact ⟨b, rfl, wpAny_pure (hR b _ hq)⟩
    refine wpAny_bind (wpAny_askSetting (wpAny_ite ?_))
    split
    · exact wpAny_bind (wpAny_pure (wpAny_pure (fin fun b s' hq => wpAny_pure ⟨_, rfl, hq⟩)))
    · exact wpAny_tryCatch (wpAny_bind (wpAny_pure (wpAny_pure (fin fun b s' hq => wpAny_pure ⟨_, rfl, hq⟩))))
  show wpAny (model prog w) A (richCompare .NotEq (.ref x) (.ref y)) Q E s
  unfold richCompare
  simp only [oneThing_ref]
  refine wpAny_holding (wpAny_bind (wpAny_cRoomFor (Nat.lt_of_succ_lt hu) ?_))
  refine wpAny_bind (I.type.here (wpAny_bind (J.type.here ?_)))
  rw [show (Value.ref C != Value.ref C) = false from by simp]
  simp only [Bool.false_eq_true, if_false]
  refine wpAny_bind (wpAny_pure ?_)
  simp only [Bool.false_eq_true, if_false]
  refine wpAny_bind (wpAny_mono one (fun r s' z => ?_) fun _ _ e => e)
  obtain ⟨v, rfl, hq⟩ := z
  exact wpAny_pure hq
end

section
variable {X : Cx} {CX : CXT} {n : Nat} {C g : Addr} {sp : Sp} {E : XK}
/-- x != y, both instances of C, which has == alone -/
def rNeOwn (C : Addr) (sp : Sp) (E : XK) : R2 := fun x y H Q => ∃ a b, x = .ref a ∧ y = .ref b ∧ InsAt H a C ∧ InsAt H b C ∧ sp [x, y] H (fun v H' => ∃ k, v = .bl k ∧ Q (.bl (!k)) H') E
theorem op_ne_own (hne : PySem.W.findIn X.K (.ref C) "__ne__" = some (some (.builtin "object.__ne__"))) (hs : PySem.W.findIn X.K (.ref C) "__eq__" = some (some (.ref g))) (hf : PySem.W.isFn X.K (.ref g) = true) (hob : PySem.W.subIn X.K (.ref C) (.type "object") = some true)
    (F : FnR X.prog X.w X.K X.mg X.base CX n g sp) (hr : Room (n + 1) X.A) (hx : Passes CX X E) : OpR X (compareOp .NotEq) (rNeOwn C sp E) := by
  intro pins s σ H x y v u Q I rx ry h
  obtain ⟨a, b, rfl, rfl, ha, hb, q⟩ := h
  cases (show v = Value.ref a from rx)
  cases (show u = Value.ref b from ry)
  obtain ⟨ox, od, J⟩ := inst_of I ha
  obtain ⟨oy, od', J'⟩ := inst_of I hb
  have hu : X.A.units + 1 < cLine := hu_of hr
  refine ne_own hu I.kIn J J' hne hs hf hob ?_
  refine wpAny_call ?_
  refine codeAny_mono (F X.A.in1 X.stack s H [.ref a, .ref b] [.ref a, .ref b] _ E hr.in1 I.env0.in1 (.cons rfl (.cons rfl .nil)) q) fun r s' hq => ?_
  cases r with
  | error e => exact hx pins σ H s e s' I hq
  | ok fl =>
    cases fl with
    | ret u =>
      obtain ⟨v, H', I2, rv, k, ev, qq⟩ := I.after hq
      subst ev
      cases (show u = Value.bool k from rv)
      exact ⟨k, rfl, .bl (!k), H', I2, rfl, qq⟩
    | next => exact False.elim hq
    | brk => exact False.elim hq
    | cont => exact False.elim hq
end
end Ow
end
section
set_option maxHeartbeats 4000000
namespace Ow
open PySem PySem.Spec PyProof.Rows L2 StX

section
variable {X : Cx} {CX : CXT} {n : Nat} {C g fa : Addr} {sp : Sp} {E : XK}

theorem inst_of2 {pins : List (Addr × Obj)} {σ : L2.St} {H : Hp} {s : Shared} {a : Addr} (I : Inv X pins σ H s) (h : InsAt H a C) : ∃ dx od, s.heap.get? a = some (PySem.W.instObj C dx) ∧ PySem.W.InstAt s.heap a (PySem.W.instObj C dx) C od := by
  obtain ⟨dx, fs, ea⟩ := h
  obtain ⟨mA, O, _⟩ := ins_get I.hok ea
  obtain ⟨od, J, _⟩ := O.look
  exact ⟨dx, _, J.at_, J⟩

/-- n + x: the instance's __radd__ -/
def rBinR (C : Addr) (sp : Sp) (E : XK) : R2 := fun x y H Q => ∃ a i, x = .int i ∧ y = .ref a ∧ InsAt H a C ∧ sp [y, x] H Q E
theorem op_radd (hc : PySem.W.selfFirst X.K C = true) (ha : PySem.W.findIn X.K (.ref C) (PySem.dunder "add") = some (some (.ref fa))) (hs : PySem.W.findIn X.K (.ref C) (dunderR "add") = some (some (.ref g))) (hf : PySem.W.isFn X.K (.ref g) = true)
    (hsub : PySem.W.subIn X.K (.ref C) (.type "int") = some false)
    (F : FnR X.prog X.w X.K X.mg X.base CX n g sp) (hr : Room n X.A) (hx : Passes CX X E) : OpR X (binaryOp .Add) (rBinR C sp E) := by
  intro pins s σ H x y v u Q I rx ry h
  obtain ⟨a, i, rfl, rfl, hia, q⟩ := h
  obtain ⟨t, rfl⟩ := rx
  cases (show u = Value.ref a from ry)
  obtain ⟨dx, od, hx', J⟩ := inst_of2 I hia
  obtain ⟨cd, rest, hcd, hm⟩ := PySem.W.ksp_first hc
  refine int_add_own I.kIn hx' J hcd hm ha hs hf hsub ?_
  refine wpAny_mono (wpAny_call (run_fnR (us := [.ref a, .int i t]) (vs := [.ref a, .int i]) F hr hx I (.cons rfl (.cons ⟨t, rfl⟩ .nil)) q)) (fun w s' z => ?_) fun _ _ x => x
  obtain ⟨z', H', I', rz, qz⟩ := z
  exact cmpbackR rz ⟨z', H', I', rz, qz⟩

def mro2 (K : PySem.W.Frag) (C : Addr) : Bool := (PySem.W.clsIn K C).any fun cd => cd.mro == [.ref C, .type "object"]
theorem mro2_of {K : PySem.W.Frag} {C : Addr} (h : mro2 K C = true) : ∃ cd, PySem.W.clsIn K C = some cd ∧ cd.mro = [.ref C, .type "object"] := by
  obtain ⟨cd, hcd, hm⟩ := PySem.W.any_some h
  exact ⟨cd, hcd, beq_iff_eq.mp hm⟩
theorem noI_obj_add : typeLookup (.type "object") (dunderI "add") = pure none := by rw [typeLookup_type, builtinLookup_eq_fast]; kernel_rfl
/-- x += n, the class has no __iadd__ -/
theorem iop_addI {fo ro rc : Option Value} (hc : mro2 X.K C = true) (hni : PySem.W.findIn X.K (.ref C) (dunderI "add") = some none) (hs : PySem.W.findIn X.K (.ref C) (PySem.dunder "add") = some (some (.ref g))) (hf : PySem.W.isFn X.K (.ref g) = true)
    (hrr : PySem.W.findIn X.K (.ref C) (dunderR "add") = some rc) (hp : rc = none ∨ ∃ g : Addr, rc = some (.ref g))
    (h1 : PySem.W.findIn X.K (.type "int") (PySem.dunder "add") = some fo) (h2 : PySem.W.findIn X.K (.type "int") (dunderR "add") = some ro) (hsub : PySem.W.subIn X.K (.type "int") (.ref C) = some false)
    (F : FnR X.prog X.w X.K X.mg X.base CX n g sp) (hr : Room n X.A) (hx : Passes CX X E) : OpR X (inplaceOp .Add) (rBinI C sp E) := by
  intro pins s σ H x y v u Q I rx ry h
  obtain ⟨a, i, rfl, rfl, hia, q⟩ := h
  cases (show v = Value.ref a from rx)
  obtain ⟨t, rfl⟩ := ry
  obtain ⟨ox, od, J⟩ := inst_of I hia
  obtain ⟨cd, hcd, hm⟩ := mro2_of hc
  refine iadd_own (op := .Add) (T := "int") I.kIn J rfl hcd hm hni noI_obj_add hs hf hrr hp h1 h2 hsub ?_
  refine wpAny_mono (wpAny_call (run_fnR (us := [.ref a, .int i t]) (vs := [.ref a, .int i]) F hr hx I (.cons rfl (.cons ⟨t, rfl⟩ .nil)) q)) (fun w s' z => ?_) fun _ _ x => x
  obtain ⟨z', H', I', rz, qz⟩ := z
  exact cmpbackR rz ⟨z', H', I', rz, qz⟩

/-- f(e, ..), a def of the module, by its positional promise -/
def tCallR (sp : Sp) (E : XK) (t : TA) : TE := fun σ H Q => t σ H fun vs H1 => sp vs H1 Q E
theorem pe_callR {x : Str} {f : Addr} {e : Expr} {es : List Expr} {t : TA} {p pos : Pos} (F : FnR X.prog X.w X.K X.mg X.base CX n f sp) (hr : Room n X.A) (hm : X.mg x = some (.ref f)) (hk : PySem.W.keepIn X.K (.ref f) = true) (hx : Passes CX X E)
    (ha : PA X (e :: es) t) (hg : Gl X x := by rfl) (hdb : (x == ("__debug__" : Str)) = false := by decide) (he : starEach (e :: es) X.env = (false, eval e X.env) :: starEach es X.env := by rfl) (hpl : (backTo pos (starEach es X.env)).any (·.1) = false := by rfl) :
    PE X (.Call (.Name x p) (e :: es) [] pos) (tCallR sp E t) := by
  refine ⟨fun pins s σ H Q I h => ?_⟩
  refine wpAny_Call_Name_kw (ld_glob I hg hm ?_ hdb)
  refine PySem.W.callWith_K (h₀ := X.base) I.ok.mod.kin hk (thn (ha.run pos pins s σ H _ I h) fun us s1 ⟨vs, H1, I1, r, q⟩ => ⟨I1.kIn, ?_⟩) he hpl
  exact wpAny_call (run_fnR F hr hx I1 r q)

/-- C(e, ..): a new instance, by the positional promise of __init__ -/
theorem pe_makeRR {x : Str} {e : Expr} {es : List Expr} {t : TA} {p pos : Pos} (M : Mk X.K C g) (F : FnR X.prog X.w X.K X.mg X.base CX n g sp) (hr : Room (n + 1) X.A) (hm : X.mg x = some (.ref C)) (hx : Passes CX X E) (ha : PA X (e :: es) t) (hg : Gl X x := by rfl) (hdb : (x == ("__debug__" : Str)) = false := by decide)
    (he : starEach (e :: es) X.env = (false, eval e X.env) :: starEach es X.env := by rfl) (hpl : (backTo pos (starEach es X.env)).any (·.1) = false := by rfl) : PE X (.Call (.Name x p) (e :: es) [] pos) (tMakeR C sp E t) :=
  pe_makeR M F hr hg hm hx ha hdb he hpl
end
end Ow
end
section
set_option maxHeartbeats 4000000
namespace Ow
open PySem PySem.Spec PyProof.Rows L2 StX

/-- what the walk asks of an own class -/
structure ClsF (K : PySem.W.Frag) (C : Addr) : Prop where
  cl : Cls K C
  ca : PySem.W.findIn K (.ref C) "__class__" = some (some (.builtin "object.__class__"))
  cn : PySem.W.specialIn K (.builtin "object.__class__") "__get__" = some (some (.builtin "getset_descriptor.__get__"))
  ct : PySem.W.takesIn K (.builtin "object.__class__") = some true
  cm : PySem.W.mroIn K C (.type "object") = some true
  ic : PySem.W.isClsIn K C = true
  ty : PySem.W.typeIn K (.ref C) = some (.type "type")
theorem ClsF.tyOf {K : PySem.W.Frag} {C p dx : Addr} {H : Hp} {fs : List (Str × V)} (c : ClsF K C) (h : H p = some (.ins C dx fs)) : TyX K H (.ref p) (.ref C) := .base (.ins h c.cl c.ca c.cn c.ct c.cm)
theorem kit_self {K : PySem.W.Frag} {t : Value} : PySem.W.kitOne K t t = some true := by
  unfold PySem.W.kitOne
  rw [if_pos (beq_self_eq_true t)]
/-- t is not below the own class at C -/
theorem kit_own {K : PySem.W.Frag} {C : Addr} {t : Value} {b : Bool} (c : ClsF K C) (h : PySem.W.subIn K t (.ref C) = some b) (hb : (t == Value.ref C) = false) : PySem.W.kitOne K t (.ref C) = some b := by
  unfold PySem.W.kitOne
  rw [if_neg (by rw [hb]; exact Bool.false_ne_true)]
  show (if ((PySem.W.clsIn K C).isSome && PySem.W.typeIn K (.ref C) == some (.type "type")) = true then PySem.W.subIn K t (.ref C) else none) = some b
  have h1 : (PySem.W.clsIn K C).isSome = true := c.ic
  rw [h1, c.ty]
  rw [if_pos (by rfl)]
  exact h
/-- an instance of C against a built-in type -/
theorem kit_bty {K : PySem.W.Frag} {C : Addr} {T : String} {b : Bool} (hm : PySem.W.kitMeta T = true) (h : PySem.W.subIn K (.ref C) (.type T) = some b) : PySem.W.kitOne K (.ref C) (.type T) = some b := by
  unfold PySem.W.kitOne
  rw [if_neg (by intro z; cases beq_iff_eq.mp z)]
  show (if PySem.W.kitMeta T = true then PySem.W.subIn K (.ref C) (.type T) else none) = some b
  rw [if_pos hm]
  exact h
theorem kit_int_int {K : PySem.W.Frag} : PySem.W.kitOne K (.type "int") (.type "int") = some true := kit_self
theorem kit_int_bool {K : PySem.W.Frag} : PySem.W.kitOne K (.type "int") (.type "bool") = some false := kit_ty (by decide +kernel)

section
variable {X : Cx} {CX : CXT} {k : Nat} {C p g a dx : Addr} {fs : List (Str × V)} {f : Str} {sp : Sp} {E : XK} {e : Expr} {pos : Pos} {ta : TE}
structure PropR (K : PySem.W.Frag) (C : Addr) (f : Str) (p g : Addr) : Prop where
  at_ : PySem.W.findIn K (.ref C) f = some (some (.ref p))
  get : PySem.W.specialIn K (.ref p) "__get__" = some (some (.builtin "property.__get__"))
  tak : PySem.W.takesIn K (.ref p) = some true
  rec_ : ∃ rest, PySem.W.recIn K p "property" = some (.ref g :: rest)
theorem getprop_R {pins : List (Addr × Obj)} {σ : L2.St} {H : Hp} {s : Shared} {Q : VK} {b : Bool} (I : Inv X pins σ H s) (ea : H a = some (.ins C dx fs)) (c : Cls X.K C) (hp : PropR X.K C f p g)
    (F : FnR X.prog X.w X.K X.mg X.base CX k g sp) (hr : Room (k + 1) X.A) (hx : Passes CX X.nox E) (h : sp [.ref a] H Q E) :
    wpAny (model X.prog X.w) X.A (getAttr (.ref a) f b) (EP X pins σ Q) X.xe s := by
  obtain ⟨mA, O, _, _, _, _⟩ := ins_get I.hok ea
  obtain ⟨od, J, _⟩ := O.look
  obtain ⟨rest, hrec⟩ := hp.rec_
  have I1 := I.tok (s.toks + 1)
  have hc : (PySem.W.clsIn X.K C).isSome = true := by
    obtain ⟨cd, hc, _⟩ := PySem.W.any_some c.hd
    rw [hc]
    rfl
  refine PySem.W.get_bind I.kIn J (PySem.W.plainGet_of (c.get f)).1 (PySem.W.findObj_data hc hp.at_ hp.get hp.tak) (PySem.W.plainGet_of (c.get f)).2 (wpAny_call (PySem.W.prop_get (s := { s with toks := s.toks + 1 }) I.kIn hrec ?_))
  refine codeAny_mono (F X.A.in1 X.stack { s with toks := s.toks + 1 } H [.ref a] [.ref a] Q E hr.in1 I1.env0.in1 (.cons rfl .nil) h) fun r s' hq => ?_
  cases r with
  | error er => exact False.elim (hx pins σ H { s with toks := s.toks + 1 } er s' (I1.wish _) hq)
  | ok fl =>
    cases fl with
    | ret u =>
      obtain ⟨v, H', I3, rv, q3⟩ := I1.after hq
      show wpAny _ _ (handedOut u) _ _ _
      rw [PySem.W.handedOut_of (handed_of rv)]
      exact wpAny_pure ⟨v, H', I3, rv, q3⟩
    | next => exact False.elim hq
    | brk => exact False.elim hq
    | cont => exact False.elim hq
def tPropR (C : Addr) (sp : Sp) (E : XK) (ta : TE) : TE := fun σ H Q => ta σ H fun x H1 => ∃ a dx fs, x = .ref a ∧ H1 a = some (.ins C dx fs) ∧ sp [.ref a] H1 Q E
/-- e.f, f a property -/
theorem pe_propR (he : PE X e ta) (c : Cls X.K C) (hp : PropR X.K C f p g) (F : FnR X.prog X.w X.K X.mg X.base CX k g sp) (hr : Room (k + 1) X.A) (hx : Passes CX X.nox E)
    (hab : attributeBase e f X.env (eval e X.env) = eval e X.env := by rfl) : PE X (.Attribute e f pos) (tPropR C sp E ta) := by
  refine ⟨fun pins s σ H Q I h => ?_⟩
  refine attr_of hab (thn (he.run pins s σ H _ I h) fun u s1 ⟨x, H1, I1, rx, a, dx, fs, ex, ea, q⟩ => ?_)
  subst ex
  obtain rfl : u = Value.ref a := rx
  exact getprop_R I1 ea c hp F hr hx q
end

/-- a def of the text, as the top left it: dvs its defaults -/
def FnT (K : PySem.W.Frag) (x qual : Str) (st : Stmt) (dvs : List V) (f : Addr) : Prop := ∃ fd, FunD K x qual (defArgs st) (defBody st) (defScope st) dvs [] f fd
section
variable {P : Program} {w : World} {K : PySem.W.Frag} {mg : Str → Option Value} {base : Heap} {x qual : Str} {st : Stmt} {dvs : List V} {f : Addr}
theorem FnT.kp (F : FnT K x qual st dvs f) : PySem.W.keepIn K (.ref f) = true := F.elim fun _ z => z.kp
/-- a def without defaults that lets nothing out -/
theorem FnT.ok {N ps : List Str} {k : Nat} {sp : Sp} (F : FnT K x qual st [] f) (S : FnScope N ps (defScope st))
    (hb : ∀ (kV doc pm : Value) (an : Option Addr) (cdv ct : Value) (us : List Value), us.length = ps.length → bindArgs (PySem.W.fnOf x qual (defArgs st) (defBody st) (defScope st) .none kV doc pm an cdv ct) ⟨us, []⟩ = pure (ps.zip us))
    (len : ∀ vs H Q E, sp vs H Q E → vs.length = ps.length)
    (hbody : ∀ (cdv : Value) (A : Around) (outer : List Env) (s : Shared) (H : Hp) (vs : List V) (Q : VK) (E : XK), Room k (A.deeper (envOfC qual (defScope st) s.heap.objs.size f cdv)) → sp vs H Q E →
      ∃ t, PSs (cxOf CX0 P w K mg base N qual (defScope st) f cdv A outer s H E).nox (defBody st) t ∧ t { nx := fun _ H' => Q .non H', rt := Q } (start N vs) H) : FnR P w K mg base CX0 (k + 1) f sp := by
  obtain ⟨fd, F⟩ := F
  have ok : FnOk P w K mg base CX0 (k + 1) f fd ps sp := F.ok S len fun cdv A outer s H vs Q E hr hsp => by
    obtain ⟨t, h, q⟩ := hbody cdv A outer s H vs Q E hr hsp
    exact ⟨t, h.nox, q⟩
  have b : Binds K fd ps [] := F.bindsN hb
  have r := ok.raw b .nil
  exact r.imp fun vs H Q E h => by rw [List.append_nil]; exact h
/-- .. with defaults, all of its arguments told; or the last ones filled up: j of the defaults are not used -/
theorem FnT.okD {N ps : List Str} {k n j : Nat} {sp : Sp} (F : FnT K x qual st dvs f) (S : FnScope N ps (defScope st)) (hd : dvs ≠ []) (hn : n + (dvs.length - j) = ps.length)
    (hb : ∀ (T : Addr) (kV doc pm : Value) (an : Option Addr) (cdv ct : Value) (us its : List Value), us.length = n → its.length = dvs.length →
      ∃ k, bindArgs (PySem.W.fnOf x qual (defArgs st) (defBody st) (defScope st) (.ref T) kV doc pm an cdv ct) ⟨us, []⟩ = seqItems? (.ref T) >>= k ∧ k (some its.toArray) = pure (ps.zip (us ++ its.drop j)))
    (len : ∀ vs H Q E, sp vs H Q E → vs.length = ps.length)
    (hbody : ∀ (cdv : Value) (A : Around) (outer : List Env) (s : Shared) (H : Hp) (vs : List V) (Q : VK) (E : XK), Room k (A.deeper (envOfC qual (defScope st) s.heap.objs.size f cdv)) → sp vs H Q E →
      ∃ t, PSs (cxOf CX0 P w K mg base N qual (defScope st) f cdv A outer s H E).nox (defBody st) t ∧ t { nx := fun _ H' => Q .non H', rt := Q } (start N vs) H) : FnR P w K mg base CX0 (k + 1) f (fun vs H Q E => sp (vs ++ dvs.drop j) H Q E) := by
  obtain ⟨fd, F⟩ := F
  have ok : FnOk P w K mg base CX0 (k + 1) f fd ps sp := F.ok S len fun cdv A outer s H vs Q E hr hsp => by
    obtain ⟨t, h, q⟩ := hbody cdv A outer s H vs Q E hr hsp
    exact ⟨t, h.nox, q⟩
  obtain ⟨ds, hds, b⟩ := F.binds1 n j hd hn hb
  exact ok.raw b hds
end
end Ow
end
section
set_option maxHeartbeats 4000000
namespace Ow
open PySem PySem.SeqAt
open AutoSeq1 (wpAny_loadPart')
open MeetsSeq MeetsSeq2 MeetsSeq3 SeqRoads2

section
variable {prog : Program} {w : World} {A : Around} {R : Result → Shared → Prop}
theorem ne_loopG (l b : Addr) (N : Nat) (I : Nat → Shared → Prop) (hl : GQ.ListI prog w A (fun e s' => R (.error e) s') l b N I)
    (fin : ∀ s, I N s → R (.ok (.ret (.bool false))) s) (k : Nat) :
    ∀ i : Nat, N - i = k → i ≤ N → ∀ s, I i s →
      wpAny (model prog w) A.in1 (Builtin.«list.__eq__.loop» ⟨[.ref l, .ref b, rawInt i, rawInt 3], []⟩) (GQ.FinOf prog w A R) (fun e s' => R (.error e) s') s := by
  induction k with
  | zero =>
    intro i hk hi s h
    obtain ⟨items, items2, n, n2, hl1, hb1, hs1, hs2, _⟩ := hl _ _ h
    have hi' : i = N := by omega
    have hR : R (.ok (.ret (.bool false))) s := fin s (hi' ▸ h)
    obtain ⟨hp, g, d, tk, os⟩ := s
    wp_walk using wpAny_loadPart' hl1, wpAny_loadPart' hb1
    have hi1 : items[((i : Nat) : Int).toNat]? = none := by simp; omega
    have hi2 : items2[((i : Nat) : Int).toNat]? = none := by simp; omega
    rw [hi1, hi2]
    wp_walk using wpAny_loadPart' hl1, wpAny_loadPart' hb1
    show R (.ok (.ret (.bool (items.size != items2.size)))) _
    rw [hs1, hs2]
    simpa using hR
  | succ k ih =>
    intro i hk hi s h
    obtain ⟨items, items2, n, n2, hl1, hb1, hs1, hs2, turn⟩ := hl _ _ h
    have hlt : i < items.size := by omega
    have hlt2 : i < items2.size := by omega
    have ht := turn hlt hlt2
    obtain ⟨hp, g, d, tk, os⟩ := s
    wp_walk using wpAny_loadPart' hl1, wpAny_loadPart' hb1
    have hi1 : items[((i : Nat) : Int).toNat]? = some items[i] := by simp [hlt]
    have hi2 : items2[((i : Nat) : Int).toNat]? = some items2[i] := by simp [hlt2]
    have hc : ((i : Int) + 1) = ((i + 1 : Nat) : Int) := by omega
    rw [hi1, hi2]
    refine wpAny_bind (wpAny_mono ht (fun r s2 h2 => ?_) fun _ _ x => x)
    obtain ⟨hr, h2⟩ := h2
    subst hr
    have hrec := ih (i + 1) (by omega) (by omega) s2 h2
    obtain ⟨hp2, g2, d2, tk2, os2⟩ := s2
    wp_walk
    rw [hc]
    exact ⟨plainId_quiet plain_eq_loop _, codeAny_builtin entry_eq_loop (by
      rw [Around.under_plainId plain_eq_loop _]
      exact hrec)⟩

theorem list_neG (l b : Addr) (N : Nat) (I : Nat → Shared → Prop) (hl : GQ.ListI prog w A (fun e s' => R (.error e) s') l b N I)
    (fin : ∀ s, I N s → R (.ok (.ret (.bool false))) s) {s : Shared} (h : I 0 s) :
    wpAny (model prog w) A.in1 (Builtin.«list.__ne__» ⟨[.ref l, .ref b], []⟩) (GQ.FinOf prog w A R) (fun e s' => R (.error e) s') s := by
  obtain ⟨items, items2, n, n2, hl1, hb1, hs1, hs2, _⟩ := hl _ _ h
  have hrec := ne_loopG (A := A) (R := R) l b N I hl fin _ 0 rfl (Nat.zero_le _) s h
  obtain ⟨hp, g, d, tk, os⟩ := s
  have f3 := AutoSeq1.sub_list_list
  have hne : ¬ (items.size != items2.size) = true := by simp [hs1, hs2]
  wp_walk using wpAny_loadPart' hl1, wpAny_loadPart' hb1
  exact ⟨plainId_quiet plain_eq_loop _, codeAny_builtin entry_eq_loop (by
    rw [Around.under_plainId plain_eq_loop _]
    exact hrec)⟩
theorem rn_listG {E : Value → Shared → Prop} {s : Shared} {l b : Addr} {N : Nat} {Q : Value → Shared → Prop} (hu : A.units < cLine) (I : Nat → Shared → Prop) (hl : GQ.ListI prog w A E l b N I)
    (fin : ∀ s, I N s → Q (.bool false) s) (h : I 0 s) : wpAny (model prog w) A (richCompare .NotEq (.ref l) (.ref b)) Q E s := by
  obtain ⟨items, items2, n, n2, hl1, hb1, _, _, _⟩ := hl _ _ h
  refine wpAny_richCompare_same_room (op := .NotEq) ⟨_, hl1, rfl⟩ ⟨_, hb1, rfl⟩ F.slot_list_ne (GQ.call_here F.slot_list_ne ⟨_, hl1, rfl⟩ F.entry_list_ne (F.args_list_ne_2 _ _) ?_) hu
  exact list_neG (R := wants (fun v s' => v ≠ .notImplemented ∧ Q v s') E) l b N I hl (fun s' q => ⟨(fun x => nomatch x), fin s' q⟩) h
end
end Ow
namespace Ow
open PySem PySem.Spec PyProof.Rows L2 StX
section
variable {X : Cx} {n m : Nat} {D D' : Eqv}
/-- two lists, equal item by item: != gives False -/
def rNeL (D : Eqv) : R2 := fun x y H Q => DList D x y H ∧ ∀ H', Ext H H' → Q (.bl false) H'
theorem op_neL (hD : Mon D) (h : EqG X n D) (hr : Room (n + 1) X.A) : OpR X (compareOp .NotEq) (rNeL D) := by
  intro pins s σ H x y v u Q I rx ry hq
  obtain ⟨⟨a, b, xs, ys, rfl, rfl, ha, hb, p⟩, q⟩ := hq
  cases rx
  cases ry
  show wpAny (model X.prog X.w) X.A (richCompare .NotEq (.ref a) (.ref b)) (EP X pins σ Q) X.xe s
  have sb : Sub X (n + 1) X.A := ⟨hr, rfl⟩
  refine rn_listG (N := xs.length) hr.units0 (fun _ s' => LoopI X pins σ H s') (fun i s' q => ?_) (fun s' q' => ?_) ⟨H, I, Ext.rfl'⟩
  · obtain ⟨H1, I1, e1⟩ := id q
    obtain ⟨z, its, k, r, e⟩ := I1.hok a _ (e1 _ _ ha)
    obtain ⟨z2, its2, k2, r2, e2⟩ := I1.hok b _ (e1 _ _ hb)
    refine ⟨its.toArray, its2.toArray, k, k2, e, e2, by rw [List.size_toArray, ← r.length], by rw [List.size_toArray, ← r2.length, ← p.1], fun h1 h2 => ?_⟩
    exact turnG hD h sb p r r2 i h1 h2 s' q
  · obtain ⟨H1, I1, e1⟩ := q'
    exact ⟨.bl false, H1, I1, rfl, q H1 e1⟩
/-- instances of C by their own ==, a positional promise -/
theorem eqG_insR {CX : CXT} {C f : Addr} {R : Addr → Addr → Hp → Prop} {E : XK} (F : FnR X.prog X.w X.K X.mg X.base CX n f (spEq R))
    (hs : PySem.W.findIn X.K (.ref C) "__eq__" = some (some (.ref f))) (hf : PySem.W.isFn X.K (.ref f) = true) (hx : Passes CX X E) : EqG X n (DIns C R) := by
  have rc : RcG X n (DIns C R) := by
    intro A pins s σ H x y u v sb I rx ry d
    obtain ⟨a, b, dx, dy, fs, gs, rfl, rfl, ha, hb', hr⟩ := d
    cases rx
    cases ry
    obtain ⟨mA, J, _⟩ := ins_get I.hok ha
    obtain ⟨mB, J', _⟩ := ins_get I.hok hb'
    obtain ⟨od, J, _⟩ := J.look
    obtain ⟨od', J', _⟩ := J'.look
    obtain ⟨m, hF⟩ := I.fr
    refine PySem.W.cmp_K (op := .Eq) (tb := .ref C) sb.room.units0 hF I.ok.mod.kin J J'.type (by simp [PySem.W.notFirst]) hs hf ?_
    have hsp : spEq R [.ref a, .ref b] H (fun v H' => v = .bl true ∧ Ext H H') E := ⟨a, b, rfl, hr, fun H' e => ⟨rfl, e⟩⟩
    have e0 : Env0 X.prog X.w X.K X.mg X.base A X.stack s H := by
      have e := I.env0
      exact ⟨by rw [sb.fr]; exact e.frames, e.mod, e.bs, e.bsz, e.funs, e.frf, e.hok, e.bare⟩
    have r2 : Vals [V.ref a, V.ref b] [Value.ref a, Value.ref b] := .cons rfl (.cons rfl .nil)
    refine wpAny_call (codeAny_mono (F A X.stack s H [.ref a, .ref b] [.ref a, .ref b] _ E sb.room e0 r2 hsp) fun r s' hq => ?_)
    cases r with
    | error e => exact hx pins σ H s e s' I hq
    | ok fl =>
      cases fl with
      | ret w =>
        obtain ⟨z, H', I', rz, ez, ex⟩ := I.after hq
        subst ez
        cases rz
        exact ⟨rfl, H', I', ex⟩
      | next => exact False.elim hq
      | brk => exact False.elim hq
      | cont => exact False.elim hq
  exact rc.eqG fun _ _ _ d => let ⟨a, b, _, _, _, _, hx, hy, _⟩ := d; ⟨a, b, hx, hy⟩
end
end Ow
end
section
set_option maxHeartbeats 4000000
/-! Defs that are called while nothing is being shown (repr of containers asks it), and the end of a law whose def asks it. -/
namespace Ow
open PySem PySem.Spec PyProof.Rows L2 StX

/-- a promise by positional values, of calls while no repr runs -/
def FnG (P : Program) (w : World) (K : PySem.W.Frag) (mg : Str → Option Value) (base : Heap) (CX : CXT) (k : Nat) (f : Addr) (sp : Sp) : Prop :=
  ∀ (A : Around) (outer : List Env) (s : Shared) (H : Hp) (us : List Value) (vs : List V) (Q : VK) (E : XK), Room k A → A.guards = some [] → Env0 P w K mg base A outer s H → Vals vs us → sp vs H Q E →
    codeAny (model P w) A (.call (.ref f) ⟨us, []⟩) (CR CX outer P w H s Q E) s
section
variable {P : Program} {w : World} {K : PySem.W.Frag} {mg : Str → Option Value} {base : Heap} {CX : CXT} {j k : Nat} {f : Addr} {sp sp' : Sp} {x qual : Str} {st : Stmt}
theorem FnG.mono (F : FnG P w K mg base CX j f sp) (h : j ≤ k) : FnG P w K mg base CX k f sp := fun A outer s H us vs Q E hr => F A outer s H us vs Q E (hr.mono h)
theorem FnG.imp (F : FnG P w K mg base CX k f sp) (h : ∀ vs H Q E, sp' vs H Q E → sp vs H Q E) : FnG P w K mg base CX k f sp' := fun A outer s H us vs Q E hr g e0 r hs => F A outer s H us vs Q E hr g e0 r (h _ _ _ _ hs)
theorem FnT.okG {N ps : List Str} (F : FnT K x qual st [] f) (S : FnScope N ps (defScope st))
    (hb : ∀ (kV doc pm : Value) (an : Option Addr) (cdv ct : Value) (us : List Value), us.length = ps.length → bindArgs (PySem.W.fnOf x qual (defArgs st) (defBody st) (defScope st) .none kV doc pm an cdv ct) ⟨us, []⟩ = pure (ps.zip us))
    (len : ∀ vs H Q E, sp vs H Q E → vs.length = ps.length)
    (hbody : ∀ (cdv : Value) (A : Around) (outer : List Env) (s : Shared) (H : Hp) (vs : List V) (Q : VK) (E : XK), Room k (A.deeper (envOfC qual (defScope st) s.heap.objs.size f cdv)) → A.guards = some [] → sp vs H Q E →
      ∃ t, PSs (cxOf CX0 P w K mg base N qual (defScope st) f cdv A outer s H E).nox (defBody st) t ∧ t { nx := fun _ H' => Q .non H', rt := Q } (start N vs) H) : FnG P w K mg base CX0 (k + 1) f sp := by
  obtain ⟨fd, F⟩ := F
  intro A outer s H us vs Q E hr hg e0 r hs
  have b := F.bindsN hb
  obtain ⟨oc, od, dV, kV, doc, pm, an, cdv, ct, osl, rfl, lk, hcd, _, _⟩ := F.ex
  have hv := len _ _ _ _ hs
  have hu : us.length = ps.length := r.length.symm.trans hv
  have b1 : BindsTo s (PySem.W.fnOf x qual (defArgs st) (defBody st) (defScope st) dV kV doc pm an cdv ct) ⟨us, []⟩ (ps.zip us) := by
    have := b s us (e0.mod.kin.keeps fun b o e => (e0.bs b o e).1) (by rw [List.append_nil]; exact hu)
    rw [List.append_nil] at this
    exact this
  refine LamX.run_ofS lk hcd S hr e0 b1 r hv fun hr2 => ?_
  obtain ⟨t, h, q⟩ := hbody cdv A outer s H vs Q E hr2 hg hs
  exact ⟨t, h.nox, q⟩
end
section
variable {X : Cx} {CX : CXT} {n : Nat} {sp : Sp} {E : XK}
theorem pe_callG {x : Str} {f : Addr} {e : Expr} {es : List Expr} {t : TA} {p pos : Pos} (F : FnG X.prog X.w X.K X.mg X.base CX n f sp) (hr : Room n X.A) (gd : X.A.guards = some []) (hm : X.mg x = some (.ref f)) (hk : PySem.W.keepIn X.K (.ref f) = true) (hx : Passes CX X E)
    (ha : PA X (e :: es) t) (hg : Gl X x := by rfl) (hdb : (x == ("__debug__" : Str)) = false := by decide) (he : starEach (e :: es) X.env = (false, eval e X.env) :: starEach es X.env := by rfl) (hpl : (backTo pos (starEach es X.env)).any (·.1) = false := by rfl) :
    PE X (.Call (.Name x p) (e :: es) [] pos) (tCallR sp E t) := by
  refine ⟨fun pins s σ H Q I h => ?_⟩
  refine wpAny_Call_Name_kw (ld_glob I hg hm ?_ hdb)
  refine PySem.W.callWith_K (h₀ := X.base) I.ok.mod.kin hk (thn (ha.run pos pins s σ H _ I h) fun us s1 ⟨vs, H1, I1, r, q⟩ => ⟨I1.kIn, ?_⟩) he hpl
  refine wpAny_call (codeAny_mono (F X.A X.stack s1 H1 us vs Q E hr gd I1.env0 r q) fun r s' hq => ?_)
  cases r with
  | error e => exact hx pins σ H1 s1 e s' I1 hq
  | ok fl =>
    cases fl with
    | ret u => exact I1.after hq
    | next => exact False.elim hq
    | brk => exact False.elim hq
    | cont => exact False.elim hq

/-- repr of data: its text -/
def rReprD (K : PySem.W.Frag) : List V → Hp → VK → Prop := fun xs H Q => ∃ (x : V) (d : PyData), xs = [x] ∧ Dp K H x d ∧ d.showable = true ∧ d.hasDict = false ∧ d.depth ≤ 8 ∧ d.shown.length ≤ sizeLine ∧ Q (.str d.shown) H
theorem call_reprD (gd : X.A.guards = some []) (hu : X.A.units + 64 < cLine) : CallR X (.builtin "repr") (rReprD X.K) := by
  intro pins s σ H xs us Q I r h
  obtain ⟨x, d, rfl, hd, hs, hnd, hdp, hsz, q⟩ := h
  obtain ⟨u, rfl, ru⟩ := vals1 r
  have fin : ∀ (h' : Heap) (tk : Nat) (u : Tok), (∀ b o, s.heap.get? b = some o → h'.get? b = some o) → EP X pins σ Q (.str d.shown u) { s with heap := h', toks := tk } := fun h' tk u k => ⟨.str d.shown, H, I.kept (t' := tk) k, ⟨u, rfl⟩, q⟩
  cases hd with
  | non => cases ru; exact PySem.P.repr_of_none (fin s.heap _ _ fun _ _ e => e)
  | bl b => cases ru; exact PySem.P.repr_of_bool (by cases b <;> exact fin s.heap _ _ fun _ _ e => e)
  | int i =>
    obtain ⟨t, rfl⟩ := ru
    have hi : i.natAbs.log2 < 1920 := of_decide_eq_true hs
    exact PySem.P.repr_of_int hi (fin s.heap _ _ fun _ _ e => e)
  | str z => obtain ⟨t, rfl⟩ := ru; exact PySem.P.repr_of_str (fin s.heap _ _ fun _ _ e => e) hsz
  | @lst a zs ds hq ha =>
    cases ru
    obtain ⟨as, rd⟩ := Dp.reads I _ _ _ (.lst hq ha) rfl
    exact repr_of_reads' rd hs (PyData.noDict_hsm hnd) gd (by omega) (fun _ _ e => e) (fun h' u tk k => fin h' tk u k) hsz
  | @tup a zs ds hq ha =>
    cases ru
    obtain ⟨as, rd⟩ := Dp.reads I _ _ _ (.tup hq ha) rfl
    exact repr_of_reads' rd hs (PyData.noDict_hsm hnd) gd (by omega) (fun _ _ e => e) (fun h' u tk k => fin h' tk u k) hsz
end

/-! ### the end of a law whose def wants to know that nothing is being shown -/
section
variable {P : Program} {w : World} {K : PySem.W.Frag} {mg mb : Str → Option Value} {k : Nat} {fa a : Addr} {sp : Sp} {s1 : Shared} {vs : List Value} {ns : List Int}
/-- the call, from one abstract heap that tracks the script alone, or nothing -/
theorem end_from (KX : K.In s1.heap) (hns : s1.heap.Ns mainGlobals mg) (hb : s1.heap.Ns builtinsNs mb) (hbb : ∀ x : Str, x ≠ "__name__" → mb x = bootBuiltins x) (hlim : s1.heap.NoLimit) (hg : s1.gens = #[]) (hr : Room k callerA)
    (F : ∀ base : Heap, K.In base → base.Ns mainGlobals mg → FnG P w K mg base CX0 k fa sp) {H : Hp} (hO : Only H) (hok : HOk P w H s1.heap) (dom : ∀ b u, H b = some u → K.lookup b = none ∧ ∃ o items n, s1.heap.get? b = some o ∧ o.data = .seq items n)
    (hsp : sp [.ref a] H (fun v _ => v = .bl true) fun _ _ _ => False) :
    codeAny (model P w) callerA (.call (.ref fa) ⟨[.ref a], []⟩) (fun r s' => r = .ok (.ret (.bool true)) ∧ OldK s1.heap s'.heap ∧ s'.os = s1.os ∧ AllBare s'.gens) s1 := by
  let base := hidT s1.heap H
  have dicts : ∀ {b : Addr} {o : Obj} {es : Array DictEntry} {ep : Nat}, s1.heap.get? b = some o → o.data = .dict es ep → base.get? b = some o := fun {b o es ep} e d => by
    refine hidT_get e ?_
    cases q : H b with
    | none => rfl
    | some u =>
      obtain ⟨_, o2, items, n, e2, d2⟩ := dom b u q
      rw [e2] at e
      cases e
      rw [d2] at d
      cases d
  have names : ∀ {b : Addr} {m : Str → Option Value}, s1.heap.Ns b m → base.Ns b m := fun z => by
    obtain ⟨o, es, ep, e, d, r⟩ := z
    exact ⟨o, es, ep, dicts e d, d, r⟩
  have hK : K.In base := fun b o e => by
    refine hidT_get (KX b o e) ?_
    cases q : H b with
    | none => rfl
    | some u =>
      have z := (dom b u q).1
      rw [e] at z
      cases z
  have lim : base.NoLimit := by
    obtain ⟨m, h1, h2⟩ := hlim
    exact ⟨m, names h1, h2⟩
  have e0 : Env0 P w K mg base callerA [] s1 H :=
    { frames := rfl, mod := ⟨hK, names hns, ⟨mb, names hb, hbb⟩, lim⟩, bs := fun b o e => of_hidT e, bsz := Nat.le_of_eq (hidT_size _ _), funs := trivial, frf := fun b hb => (List.not_mem_nil hb).elim, hok := hok, bare := .of_eq hg }
  refine codeAny_mono (F base hK (names hns) callerA [] s1 H [.ref a] [.ref a] _ _ hr rfl e0 (.cons rfl .nil) hsp) fun r s' h => ?_
  cases r with
  | error e => exact False.elim h
  | ok fl =>
    cases fl with
    | ret u =>
      obtain ⟨v, H2, os, bare, un, ok2, rv, q⟩ := h
      subst q
      cases rv
      refine ⟨rfl, OldK.of_keep fun b o e => ?_, os, bare⟩
      cases q : H b with
      | none => exact un.keep b o e q (fun z => List.not_mem_nil z) (fun z => List.not_mem_nil z)
      | some u =>
        rcases hO b with z | ⟨ob, xs, z⟩
        · rw [q] at z
          cases z
        · have e1 := (hok b _ z).1
          have e2 := (ok2 b _ (un.frzs b ob _ z)).1
          rw [e] at e1
          cases e1
          exact e2
    | next => exact False.elim h
    | brk => exact False.elim h
    | cont => exact False.elim h
theorem end_callG (KX : K.In s1.heap) (hns : s1.heap.Ns mainGlobals mg) (hb : s1.heap.Ns builtinsNs mb) (hbb : ∀ x : Str, x ≠ "__name__" → mb x = bootBuiltins x) (hlim : s1.heap.NoLimit) (hg : s1.gens = #[]) (hr : Room k callerA)
    (ha : s1.heap.get? a = some { cls := .type "list", data := .seq vs.toArray }) (hi : IntsAre vs ns) (hl : ns.length ≤ sizeLine) (F : ∀ base : Heap, K.In base → base.Ns mainGlobals mg → FnG P w K mg base CX0 k fa sp)
    (hsp : ∀ H : Hp, Only H → SqL K H a (ns.map V.int) → sp [.ref a] H (fun v _ => v = .bl true) fun _ _ _ => False) :
    codeAny (model P w) callerA (.call (.ref fa) ⟨[.ref a], []⟩) (fun r s' => r = .ok (.ret (.bool true)) ∧ OldK s1.heap s'.heap ∧ s'.os = s1.os ∧ AllBare s'.gens) s1 := by
  have rv := vals_ints hi
  have hl2 : (ns.map V.int).length ≤ sizeLine := by rw [List.length_map]; exact hl
  cases hk : K.lookup a with
  | some o =>
    have e := KX a o hk
    rw [ha] at e
    cases e
    refine end_from KX hns hb hbb hlim hg hr F (H := fun _ => none) (fun _ => .inl rfl) (fun b u z => by cases z) (fun b u z => by cases z) (hsp _ (fun _ => .inl rfl) ?_)
    exact .inr ⟨_, vs.toArray, _, hk, rfl, rfl, rfl, by rw [List.size_toArray, hi.length]; exact hl, by simpa using rv⟩
  | none =>
    let o : Obj := { cls := .type "list", data := .seq vs.toArray }
    let H : Hp := fun b => if b = a then some (.frz o (.lst (ns.map V.int))) else none
    have H1 : H a = some (.frz o (.lst (ns.map V.int))) := if_pos rfl
    have H0 : ∀ b u, H b = some u → b = a ∧ u = .frz o (.lst (ns.map V.int)) := fun b u z => by
      by_cases e : b = a
      · subst e
        rw [H1] at z
        cases z
        exact ⟨rfl, rfl⟩
      · have z0 : H b = none := if_neg e
        rw [z0] at z
        cases z
    have hO : Only H := fun b => by
      by_cases e : b = a
      · subst e; exact .inr ⟨_, _, H1⟩
      · exact .inl (if_neg e)
    refine end_from KX hns hb hbb hlim hg hr F (H := H) hO (fun b u z => ?_) (fun b u z => ?_) (hsp _ hO (.inl (.inr ⟨_, H1⟩)))
    · obtain ⟨rfl, rfl⟩ := H0 b u z
      exact ⟨ha, hl2, vs, _, rv, ha⟩
    · obtain ⟨rfl, rfl⟩ := H0 b u z
      exact ⟨hk, _, _, _, ha, rfl⟩
end
theorem walk_ofG {l : PySem.W.OpenLaw} {n k : Nat} {q : Program} {loose : List Str} {XP : (Str → Option Value) → Heap → Prop} {YP : World → Heap → Prop} {d : DefRec} {K : Params → PySem.W.Frag} {sp : World → Sp}
    (hn : l.most = some n) (hn2 : n ≤ sizeLine) (hdf : d.params.defaults = []) (hr : Room k callerA) (hY : ∀ (w : World) (h : Heap), YP w h → (K w.params).In h)
    (F : ∀ (w : World) (mg : Str → Option Value) (fa : Addr) (h : Heap), (K w.params).In h → h.Ns mainGlobals mg → mg d.name = some (.ref fa) →
      ∀ base : Heap, (K w.params).In base → base.Ns mainGlobals mg → FnG l.prog w (K w.params) mg base CX0 k fa (sp w))
    (hsp : ∀ (w : World) (H : Hp) (a : Addr) (ns : List Int), ns.length ≤ n → Only H → SqL (K w.params) H a (ns.map V.int) → sp w [.ref a] H (fun v _ => v = .bl true) fun _ _ _ => False) :
    PySem.W.WalkO q loose XP YP l.row.toRowW d [] (fun f vs => PySem.call f vs) := by
  refine Att.attach_call hn hdf fun w s0 s1 mg mb fa o pm cd doc a vs ns G Y ho hd hcd hmg hobj hints hlen hg => ?_
  have KX := hY w _ Y
  exact end_callG KX G.T.g G.T.b G.T.builtins G.T.nolimit hg hr hobj hints (Nat.le_trans hlen hn2) (F w mg fa _ KX G.T.g hmg) fun H hO hS => hsp w H a ns hlen hO hS
end Ow
end
section
set_option maxHeartbeats 4000000
/-! Own errors with a def of their own that keeps the fields: raise C(e), raise C(e, e'). -/
namespace Ow
open PySem PySem.Spec PyProof.Rows L2 StX
section
variable {P : Program} {w : World} {K : PySem.W.Frag} {mg : Str → Option Value} {base : Heap} {x qual : Str} {st : Stmt} {f : Addr}
/-- a def without defaults that may let errors out -/
theorem FnT.okX {N ps : List Str} {k : Nat} {sp : Sp} (F : FnT K x qual st [] f) (S : FnScope N ps (defScope st))
    (hb : ∀ (kV doc pm : Value) (an : Option Addr) (cdv ct : Value) (us : List Value), us.length = ps.length → bindArgs (PySem.W.fnOf x qual (defArgs st) (defBody st) (defScope st) .none kV doc pm an cdv ct) ⟨us, []⟩ = pure (ps.zip us))
    (len : ∀ vs H Q E, sp vs H Q E → vs.length = ps.length)
    (hbody : ∀ (cdv : Value) (A : Around) (outer : List Env) (s : Shared) (H : Hp) (vs : List V) (Q : VK) (E : XK), Room k (A.deeper (envOfC qual (defScope st) s.heap.objs.size f cdv)) → sp vs H Q E →
      ∃ t, PSs (cxOf (CX P w) P w K mg base N qual (defScope st) f cdv A outer s H E) (defBody st) t ∧ t { nx := fun _ H' => Q .non H', rt := Q } (start N vs) H) : FnR P w K mg base (CX P w) (k + 1) f sp := by
  obtain ⟨fd, F⟩ := F
  have ok : FnOk P w K mg base (CX P w) (k + 1) f fd ps sp := F.ok S len hbody
  have b : Binds K fd ps [] := F.bindsN hb
  exact (ok.raw b .nil).imp fun vs H Q E h => by rw [List.append_nil]; exact h
/-- .. with defaults -/
theorem FnT.okDX {N ps : List Str} {k n j : Nat} {sp : Sp} {dvs : List V} (F : FnT K x qual st dvs f) (S : FnScope N ps (defScope st)) (hd : dvs ≠ []) (hn : n + (dvs.length - j) = ps.length)
    (hb : ∀ (T : Addr) (kV doc pm : Value) (an : Option Addr) (cdv ct : Value) (us its : List Value), us.length = n → its.length = dvs.length →
      ∃ k, bindArgs (PySem.W.fnOf x qual (defArgs st) (defBody st) (defScope st) (.ref T) kV doc pm an cdv ct) ⟨us, []⟩ = seqItems? (.ref T) >>= k ∧ k (some its.toArray) = pure (ps.zip (us ++ its.drop j)))
    (len : ∀ vs H Q E, sp vs H Q E → vs.length = ps.length)
    (hbody : ∀ (cdv : Value) (A : Around) (outer : List Env) (s : Shared) (H : Hp) (vs : List V) (Q : VK) (E : XK), Room k (A.deeper (envOfC qual (defScope st) s.heap.objs.size f cdv)) → sp vs H Q E →
      ∃ t, PSs (cxOf (CX P w) P w K mg base N qual (defScope st) f cdv A outer s H E) (defBody st) t ∧ t { nx := fun _ H' => Q .non H', rt := Q } (start N vs) H) : FnR P w K mg base (CX P w) (k + 1) f (fun vs H Q E => sp (vs ++ dvs.drop j) H Q E) := by
  obtain ⟨fd, F⟩ := F
  have ok : FnOk P w K mg base (CX P w) (k + 1) f fd ps sp := F.ok S len hbody
  obtain ⟨ds, hds, b⟩ := F.binds1 n j hd hn hb
  exact ok.raw b hds
/-- an own error's class, whose __init__ stands at g -/
structure ErrF (K : PySem.W.Frag) (C g : Addr) : Prop where
  ox : OexC K C
  iC : PySem.W.findIn K (.ref C) "__init__" = some (some (.ref g))
  tI : PySem.W.typeIn K (.ref g) = some (.type "function")
/-- __init__(self, v): self.f = v -/
def spErr1 (C : Addr) (n : Str) : Sp := fun vs H Q _ => ∃ (a : Addr) (v : V), vs = [.ref a, v] ∧ H a = some (exo a C none) ∧ ∀ dx, H dx = none → dx ≠ a → Q .non (upd (upd H dx (exd dx [(n, v)])) a (exo a C (some dx)))
/-- __init__(self, v, u): self.f = v; self.g = u -/
def spErr2 (C : Addr) (n m : Str) : Sp := fun vs H Q _ => ∃ (a : Addr) (v u : V), vs = [.ref a, v, u] ∧ H a = some (exo a C none) ∧ ∀ dx, H dx = none → dx ≠ a → Q .non (upd (upd H dx (exd dx [(m, u), (n, v)])) a (exo a C (some dx)))
theorem raise_heap {H : Hp} {a d : Addr} {C : Addr} {fs : List (Str × V)} (ha : H a = none) (hne : d ≠ a) :
    upd (del (upd (upd (upd H a (exo a C none)) d (exd d fs)) a (exo a C (some d))) a) d (.xd fs) = upd H d (.xd fs) := by
  funext b
  by_cases e : b = d
  · subst e; rw [upd_same, upd_same]
  · rw [upd_ne e, upd_ne e]
    by_cases e2 : b = a
    · subst e2
      rw [ha]
      exact if_pos rfl
    · show (if b = a then none else _) = _
      rw [if_neg e2, upd_ne e2, upd_ne e, upd_ne e2]
/-- what making such an error asks: the reading of pmk_oex, its fields told -/
theorem err1_made {Q : XK} {H1 : Hp} {v : V} {C : Addr} {n : Str} (k : ∀ d, H1 d = none → Q (.ref C) (some d) (upd H1 d (.xd [(n, v)]))) :
    [v].length ≤ 1000 ∧ ∀ a, H1 a = none → spErr1 C n (.ref a :: ([v] ++ [])) (upd H1 a (exo a C none)) (fun u H2 => u = .non ∧ ∃ (d : Addr) (fs : List (Str × V)), H2 a = some (exo a C (some d)) ∧ H2 d = some (exd d fs) ∧ H1 d = none ∧ Q (.ref C) (some d) (upd (del H2 a) d (.xd fs))) (fun _ _ _ => False) := by
  refine ⟨Nat.le_of_ble_eq_true rfl, fun a ha => ⟨a, v, rfl, upd_same, fun dx hdx ne => ⟨rfl, dx, _, upd_same, by rw [upd_ne ne]; exact upd_same, by rw [upd_ne ne] at hdx; exact hdx, ?_⟩⟩⟩
  rw [raise_heap ha ne]
  refine k dx ?_
  rw [upd_ne ne] at hdx
  exact hdx
theorem err2_made {Q : XK} {H1 : Hp} {v u : V} {C : Addr} {n m : Str} (k : ∀ d, H1 d = none → Q (.ref C) (some d) (upd H1 d (.xd [(m, u), (n, v)]))) :
    [v, u].length ≤ 1000 ∧ ∀ a, H1 a = none → spErr2 C n m (.ref a :: ([v, u] ++ [])) (upd H1 a (exo a C none)) (fun u H2 => u = .non ∧ ∃ (d : Addr) (fs : List (Str × V)), H2 a = some (exo a C (some d)) ∧ H2 d = some (exd d fs) ∧ H1 d = none ∧ Q (.ref C) (some d) (upd (del H2 a) d (.xd fs))) (fun _ _ _ => False) := by
  refine ⟨Nat.le_of_ble_eq_true rfl, fun a ha => ⟨a, v, u, rfl, upd_same, fun dx hdx ne => ⟨rfl, dx, _, upd_same, by rw [upd_ne ne]; exact upd_same, by rw [upd_ne ne] at hdx; exact hdx, ?_⟩⟩⟩
  rw [raise_heap ha ne]
  refine k dx ?_
  rw [upd_ne ne] at hdx
  exact hdx
/-- a def without defaults that lets nothing out: its promise by binds, for makings of errors -/
theorem FnT.okB {N ps : List Str} {k : Nat} {sp : Sp} (F : FnT K x qual st [] f) (S : FnScope N ps (defScope st))
    (hb : ∀ (kV doc pm : Value) (an : Option Addr) (cdv ct : Value) (us : List Value), us.length = ps.length → bindArgs (PySem.W.fnOf x qual (defArgs st) (defBody st) (defScope st) .none kV doc pm an cdv ct) ⟨us, []⟩ = pure (ps.zip us))
    (len : ∀ vs H Q E, sp vs H Q E → vs.length = ps.length)
    (hbody : ∀ (cdv : Value) (A : Around) (outer : List Env) (s : Shared) (H : Hp) (vs : List V) (Q : VK) (E : XK), Room k (A.deeper (envOfC qual (defScope st) s.heap.objs.size f cdv)) → sp vs H Q E →
      ∃ t, PSs (cxOf CX0 P w K mg base N qual (defScope st) f cdv A outer s H E).nox (defBody st) t ∧ t { nx := fun _ H' => Q .non H', rt := Q } (start N vs) H) : ∃ fd, FnOk P w K mg base CX0 (k + 1) f fd ps sp ∧ Binds K fd ps [] := by
  obtain ⟨fd, F⟩ := F
  exact ⟨fd, F.ok S len fun cdv A outer s H vs Q E hr hsp => by
    obtain ⟨t, h, q⟩ := hbody cdv A outer s H vs Q E hr hsp
    exact ⟨t, h.nox, q⟩, F.bindsN hb⟩
/-- v is no integer (a bool is none) -/
def NoInt (K : PySem.W.Frag) (H : Hp) (v : V) : Prop := (∃ b, v = .bl b) ∨ ∃ T : String, TyX K H v (.type T) ∧ PySem.W.kitOne K (.type T) (.type "int") = some false
theorem kit_bool_int {K : PySem.W.Frag} : PySem.W.kitOne K (.type "bool") (.type "int") = some true := kit_ty (by decide +kernel)
theorem NoInt.non {H : Hp} : NoInt K H .non := .inr ⟨_, .base .non, kit_ty (by decide +kernel)⟩
theorem NoInt.bl {H : Hp} {b : Bool} : NoInt K H (.bl b) := .inl ⟨b, rfl⟩
theorem NoInt.str {H : Hp} {z : Str} : NoInt K H (.str z) := .inr ⟨_, .base (.str z), kit_ty (by decide +kernel)⟩
theorem NoInt.lst {H : Hp} {l : Addr} {xs : List V} (h : H l = some (.lst xs)) : NoInt K H (.ref l) := .inr ⟨_, .base (.lst h), kit_ty (by decide +kernel)⟩
theorem NoInt.tup {H : Hp} {l : Addr} {xs : List V} (h : H l = some (.tup xs)) : NoInt K H (.ref l) := .inr ⟨_, .base (.tup h), kit_ty (by decide +kernel)⟩
theorem NoInt.dict {H : Hp} {l : Addr} {kvs : List (Key × V)} (h : H l = some (.dK kvs)) : NoInt K H (.ref l) := .inr ⟨_, .base (.dK h), kit_ty (by decide +kernel)⟩
/-- is_int of any value -/
def spIntV (K : PySem.W.Frag) : Sp := fun vs H Q _ => ∃ v, vs = [v] ∧ ((∃ i : Int, v = .int i ∧ Q (.bl true) H) ∨ (NoInt K H v ∧ Q (.bl false) H))
/-- the error of the class at B lets out, with one field -/
def Out1 (B : Addr) (n : Str) (H : Hp) (E : XK) (v : V) : Prop := ∀ d, H d = none → E (.ref B) (some d) (upd H d (.xd [(n, v)]))
theorem TyOf.same {H H' : Hp} {v : V} {t : Value} (h : TyOf K H v t) (m : ∀ b o, H b = some o → H' b = some o) : TyOf K H' v t := by
  cases h with
  | non => exact .non
  | bl x => exact .bl x
  | int i => exact .int i
  | str x => exact .str x
  | flt x => exact .flt x
  | lst h => exact .lst (m _ _ h)
  | frz h => exact .frz (m _ _ h)
  | tup h => exact .tup (m _ _ h)
  | dK h => exact .dK (m _ _ h)
  | dT h => exact .dT (m _ _ h)
  | ins h c a b d e => exact .ins (m _ _ h) c a b d e
theorem TyX.same {H H' : Hp} {v : V} {t : Value} (h : TyX K H v t) (m : ∀ b o, H b = some o → H' b = some o) : TyX K H' v t := by
  cases h with
  | base h => exact .base (TyOf.same h m)
  | byt b => exact .byt b
  | set h => exact .set (m _ _ h)
  | kList h c => exact .kList h c
  | kTuple h c => exact .kTuple h c
  | kDict h c => exact .kDict h c
  | fTuple h => exact .fTuple (m _ _ h)
  | fDict h => exact .fDict (m _ _ h)
theorem NoInt.same {H H' : Hp} {v : V} (h : NoInt K H v) (m : ∀ b o, H b = some o → H' b = some o) : NoInt K H' v := by
  rcases h with h | ⟨t, h, q⟩
  · exact .inl h
  · exact .inr ⟨t, TyX.same h m, q⟩
/-- .. from a heap that has grown -/
def OutS (B : Addr) (n : Str) (H : Hp) (E : XK) (v : V) : Prop := ∀ H', (∀ b o, H b = some o → H' b = some o) → Out1 B n H' E v
end
/-- what a callee lets out leaves the def -/
theorem passUp {X : Cx} {E : XK} (tk : Takes X fun cls d _ H => E cls d H) : Passes (CX X.prog X.w) X E := fun pins σ H s e s' I h => passAt tk σ pins H s e s' I h
end Ow
end
section
set_option maxHeartbeats 4000000
/-! isinstance of a caught own error that keeps fields; what a def that tries its argument tells. -/
namespace Ow
open PySem PySem.Spec PyProof.Rows L2 StX
section
variable {X : Cx} {a : Addr} {oe : Obj} {cls : Value} {d : Option Addr} {pn : List (Addr × Obj)}
/-- isinstance(error, T): error the caught one, with its fields at dd -/
def rIsEX (K : PySem.W.Frag) (a : Addr) (cls : Value) (d : Option Addr) : List V → Hp → VK → Prop := fun xs H Q => ∃ (c : V) (cv : Value) (b : Bool) (D dd : Addr) (fs : List (Str × V)),
  xs = [.ref a, c] ∧ cls = .ref D ∧ ExcC K D ∧ (PySem.W.clsIn K D).isSome = true ∧ d = some dd ∧ H dd = some (.xd fs) ∧ (∀ u, RelV c u → u = cv) ∧ PySem.W.kitOne K (.ref D) cv = some b ∧ Q (.bl b) H
theorem call_isEX (hz : Zc cls d oe) (hf : ∃ vs, oe.data = .fields vs) : CallR (X.suite a ((a, oe) :: pn)) (.builtin "isinstance") (rIsEX X.K a cls d) := by
  intro pins s σ H xs us Q I r h
  obtain ⟨c, cv, b, D, dd, fs, rfl, rfl, C, hci, rfl, hdd, hcv, hk, q⟩ := h
  cases r with
  | cons rx r2 =>
    cases r2 with
    | cons rc r3 =>
      cases r3
      cases rx
      cases hcv _ rc
      obtain ⟨hget, _⟩ := I.pin (a, oe) (List.mem_append.mpr (.inl List.mem_cons_self))
      obtain ⟨vs, hv⟩ := hf
      obtain ⟨z1, z2⟩ := hz
      obtain ⟨od, hod⟩ : ∃ o, s.heap.get? dd = some o := by
        have := I.hok dd _ hdd
        obtain ⟨mA, ⟨o, _, _, e, _⟩, _⟩ := this
        exact ⟨o, e⟩
      have J : PySem.W.InstAt s.heap a oe D (some od) := ⟨hget, z1, by unfold PySem.W.notCls; rw [hv], by rw [z2]; exact hod⟩
      refine PySem.W.kia_one (PySem.W.kitx_exc (x := a) (ox := oe) (od := some od) hci C.hg C.hk C.hs C.ha C.hn C.ht C.hm) I.kIn J hk (fun z => by cases z) fun tk => ?_
      exact ⟨.bl b, H, I.kept fun _ _ e => e, rfl, q⟩
end
/-- return (z, ask()), ask a handed lambda that may raise -/
theorem ret_told {X : Cx} {f c' : Addr} {q z : Str} {tl : XK → Hp → VK → Prop} {W : WX} {n : Str} {j ct : Nat} {p0 p1 p2 pt ps : Pos}
    (act : ∀ E : XK, (∀ cls d σ' H', E cls d H' → W cls d σ' H') → PE X (.Call (.Name n p1) [] [] p2) (fun σZ HZ Q => σZ[0]? = some (some (.ref f)) ∧ HZ c' = some (LamX.CodeO c' q) ∧ tl E HZ Q)) :
    PSs X [.Return (some (.Tuple [.Constant (.str z) j p0, .Call (.Name n p1) [] [] p2] ct pt)) ps] (fun D σ H => ∃ Ech : XK, (∀ cls d σ' H', Ech cls d H' → W cls d σ' H') ∧ σ[0]? = some (some (.ref f)) ∧ H c' = some (LamX.CodeO c' q) ∧
      tl Ech H (fun v H1 => [V.str z, v].length ≤ sizeLine ∧ ∀ p, H1 p = none → D.rt (.ref p) (upd H1 p (.tup [.str z, v])))) := by
  refine ⟨fun pins s' σ H' D I ⟨Ech, hW, h1, h2, h3⟩ => ?_⟩
  exact (pss_one (ps_ret (pe_tup (pa_cons pe_str (pa_cons (act Ech hW) pa_nil))))).run pins s' σ H' D I ⟨h1, h2, h3⟩
/-- as many slots as names stand at each statement -/
theorem pss_len {X : Cx} {b : List Stmt} {t : TS} (n : Nat) (hn : X.N.length = n) (h : PSs X b t) : PSs X b (fun D σ H => σ.length = n → t D σ H) := ⟨fun pins s σ H D I q => h.run pins s σ H D I (q (I.len.trans hn))⟩
/-- an own class against another one -/
theorem kit_err {K : PySem.W.Frag} {C : Addr} {t : Value} {b : Bool} (hi : (PySem.W.clsIn K C).isSome = true) (ht : PySem.W.typeIn K (.ref C) = some (.type "type")) (h : PySem.W.subIn K t (.ref C) = some b) (hb : (t == Value.ref C) = false) : PySem.W.kitOne K t (.ref C) = some b := by
  unfold PySem.W.kitOne
  rw [if_neg (by rw [hb]; exact Bool.false_ne_true)]
  show (if ((PySem.W.clsIn K C).isSome && PySem.W.typeIn K (.ref C) == some (.type "type")) = true then PySem.W.subIn K t (.ref C) else none) = some b
  rw [hi, ht]
  rw [if_pos (by rfl)]
  exact h
end Ow
end
section
set_option maxHeartbeats 4000000
/-! A comparison of an own instance with a value of another kind. -/
namespace Ow
open PySem PySem.Spec PyProof.Rows L2 StX
section
variable {X : Cx} {CX : CXT} {n : Nat} {C g : Addr} {sp : Sp} {E : XK}
/-- x op y: x an instance of C, y of the type t, that is not below C -/
def rBinT (K : PySem.W.Frag) (C : Addr) (sp : Sp) (E : XK) : R2 := fun x y H Q => ∃ (a : Addr) (t : Value), x = .ref a ∧ InsAt H a C ∧ TyX K H y t ∧ PySem.W.notFirst K C t = true ∧ sp [x, y] H Q E
theorem op_cmpT {op : CmpOp} (hop : ∀ a b, compareOp op a b = richCompare op a b) (hs : PySem.W.findIn X.K (.ref C) (cmpInfo op).2.1 = some (some (.ref g))) (hf : PySem.W.isFn X.K (.ref g) = true)
    (F : FnR X.prog X.w X.K X.mg X.base CX n g sp) (hr : Room n X.A) (hx : Passes CX X E) : OpR X (compareOp op) (rBinT X.K C sp E) := by
  intro pins s σ H x y v u Q I rx ry h
  obtain ⟨a, t, rfl, ha, ht, hn, q⟩ := h
  cases (show v = Value.ref a from rx)
  obtain ⟨ox, od, J⟩ := inst_of I ha
  obtain ⟨m, hF⟩ := I.fr
  obtain ⟨Pk, k, hk, _⟩ := kit_of I ry ht
  rw [hop]
  refine PySem.W.cmp_K (op := op) (tb := t) hr.units0 hF I.ok.mod.kin J (k.ty _ _ I.kIn hk) hn hs hf ?_
  refine wpAny_mono (wpAny_call (run_fnR (us := [.ref a, u]) (vs := [.ref a, y]) F hr hx I (.cons rfl (.cons ry .nil)) q)) (fun w s' z => ?_) fun _ _ x => x
  obtain ⟨z', H', I', rz, qz⟩ := z
  exact cmpbackR rz ⟨z', H', I', rz, qz⟩
theorem notFirst_of {K : PySem.W.Frag} {T : String} (h : PySem.W.subIn K (.type T) (.ref C) = some false) : PySem.W.notFirst K C (.type T) = true := by
  unfold PySem.W.notFirst
  rw [h]
  simp
end
end Ow
end
section
set_option maxHeartbeats 4000000
/-! A law whose def hands lambdas over: its code is told, and the code's table. -/
namespace Ow
open PySem PySem.Spec PyProof.Rows L2 StX
section
variable {P : Program} {w : World} {K : PySem.W.Frag} {mg : Str → Option Value} {base : Heap} {x qual : Str} {st : Stmt} {f c : Addr}
/-- a def of the text without defaults, its code at c -/
def FnC (K : PySem.W.Frag) (x qual : Str) (st : Stmt) (f c : Addr) : Prop := ∃ (oc : Value) (od an : Option Addr) (kV doc pm ct : Value) (osl : Array (Option Value)),
  K.lookup f = some ⟨oc, od, .func (PySem.W.fnOf x qual (defArgs st) (defBody st) (defScope st) .none kV doc pm an (.ref c) ct), osl⟩ ∧ PySem.W.codeIn K (.ref c) qual = true
theorem FnC.mk {oc : Value} {od an : Option Addr} {kV doc pm ct : Value} {osl : Array (Option Value)} (l : K.lookup f = some ⟨oc, od, .func (PySem.W.fnOf x qual (defArgs st) (defBody st) (defScope st) .none kV doc pm an (.ref c) ct), osl⟩) (h : PySem.W.codeIn K (.ref c) qual = true) : FnC K x qual st f c := ⟨oc, od, an, kV, doc, pm, ct, osl, l, h⟩
theorem FnC.ok {N ps : List Str} (F : FnC K x qual st f c) (S : FnScope N ps (defScope st))
    (hb : ∀ (kV doc pm : Value) (an : Option Addr) (cdv ct : Value) (us : List Value), us.length = ps.length → bindArgs (PySem.W.fnOf x qual (defArgs st) (defBody st) (defScope st) .none kV doc pm an cdv ct) ⟨us, []⟩ = pure (ps.zip us)) :
    ∃ fd : FuncData, (∀ (s : Shared) (us : List Value), us.length = ps.length → BindsTo s fd ⟨us, []⟩ (ps.zip us)) ∧ ∀ (P : Program) (w : World) (mg : Str → Option Value) (base : Heap) (k : Nat) (sp : Sp), (∀ vs H Q E, sp vs H Q E → vs.length = ps.length) →
      (∀ (A : Around) (outer : List Env) (s : Shared) (H : Hp) (vs : List V) (Q : VK) (E : XK), Room k (A.deeper (envOfC qual (defScope st) s.heap.objs.size f (.ref c))) → sp vs H Q E →
        ∃ t, PSs (cxOf CX0 P w K mg base N qual (defScope st) f (.ref c) A outer s H E).nox (defBody st) t ∧ t { nx := fun _ H' => Q .non H', rt := Q } (start N vs) H) → FnOk P w K mg base CX0 (k + 1) f fd ps sp := by
  obtain ⟨oc, od, an, kV, doc, pm, ct, osl, lk, hcd⟩ := F
  refine ⟨_, fun s us hu => BindsTo.of_eq (hb kV doc pm an (.ref c) ct us hu), fun P w mg base k sp len hbody => ⟨len, fun A outer s H args us vs Q E hr e0 b r hs => ?_⟩⟩
  refine LamX.run_ofS lk hcd S hr e0 b r (len _ _ _ _ hs) fun hr2 => ?_
  obtain ⟨t, h, q⟩ := hbody A outer s H vs Q E hr2 hs
  exact ⟨t, h.nox, q⟩
/-- a code object, its table at T -/
theorem codeHd_mk {h : Heap} {T : Addr} {od : Option Addr} {vs : Array Value} {osl : Array (Option Value)} {file : Str} {tf : Tok} {flags text : Int} {tg tt : Tok} {inF : Bool} (X : K.In h) (l : K.lookup c = some ⟨.type "code", od, .fields vs, osl⟩)
    (e1 : vs[11]? = some (.ref T)) (e2 : vs.getD 11 .none = .ref T) (e3 : vs.getD 18 .none = .str file tf) (e4 : vs.getD 7 .none = .int flags tg) (e5 : vs.getD 9 .none = .bool inF) (e6 : vs.getD 10 .none = .int text tt) (ne : c ≠ T) : PySem.W.CodeHd h c T :=
  ⟨_, vs, file, tf, flags, tg, inF, text, tt, X _ _ l, rfl, rfl, e1, e2, e3, e4, e5, e6, ne⟩
end
/-- a table is not of the written part -/
theorem km_none {K : Params → PySem.W.Frag} {as ts : List Addr} {e : ∀ P, as = (K P).map fun x => x.1} {w : World} {h : Heap} (_ : (PySem.W.kmHook K as e ts).says w h) {T : Addr} (n : as.contains T = false) : List.lookup T (K w.params) = none := by
  rw [List.lookup_eq_none_iff]
  intro p hp
  have m : p.1 ∈ as := by rw [e w.params]; exact List.mem_map.mpr ⟨p, hp, rfl⟩
  refine bne_iff_ne.mpr fun q => ?_
  rw [← q] at m
  have := List.contains_iff_mem.mpr m
  rw [n] at this
  cases this
end Ow
end
section
set_option maxHeartbeats 4000000
/-! A def with defaults and without keyword-only parameters, called by keywords. -/
namespace Ow
open PySem PySem.Spec PyProof.Rows L2 StX
section
variable {K : PySem.W.Frag} {x qual : Str} {params : Arguments} {body : List Stmt} {scope : PySem.Scope} {dvs : List V} {kws : List (Str × V)} {f : Addr} {fd : FuncData} {ps : List Str}
/-- n arguments by place, ks by keyword; g puts the defaults in -/
theorem kbnD (F : FunD K x qual params body scope dvs kws f fd) (n : Nat) (ks : List Str) (g : {α : Type} → List α → List α → List α → List α) (hd : dvs ≠ [])
    (hg : ∀ {vs ds zs : List V} {us its ws : List Value}, Vals vs us → Vals ds its → Vals zs ws → Vals (g vs ds zs) (g us its ws))
    (h : ∀ (T : Addr) (kV doc pm : Value) (an : Option Addr) (cdv ct : Value) (us its ws : List Value), us.length = n → its.length = dvs.length → ws.length = ks.length →
      ∃ k, bindArgs (PySem.W.fnOf x qual params body scope (.ref T) kV doc pm an cdv ct) ⟨us, ks.zip ws⟩ = seqItems? (.ref T) >>= k ∧ k (some its.toArray) = pure (ps.zip (g us its ws))) :
    ∃ its, KBn K fd ps n ks (fun us ws => g us its ws) fun vs zs => g vs dvs zs := by
  obtain ⟨oc, od, dV, kV, doc, pm, an, cdv, ct, osl, rfl, lk, hcd, hD, hK⟩ := F.ex
  rcases hD with ⟨e, _⟩ | ⟨_, T, o, its, m, rfl, lT, oT, rT⟩
  · exact absurd e hd
  refine ⟨its, ⟨fun s us ws X hu hw => ?_, fun r1 r2 => hg r1 rT r2⟩⟩
  obtain ⟨k, e1, e2⟩ := h T kV doc pm an cdv ct us its ws hu rT.length.symm hw
  exact BindsTo.of_looks fun M => by
    rw [e1]
    exact looks_items X lT oT (PySem.W.Looks.of_pure e2)
end
section
variable {X : Cx} {CX : CXT} {k : Nat} {f : Addr} {fd : FuncData} {ps ks : List Str} {sp : Sp} {E : XK} {x : Str} {p pos : Pos} {kws : List Keyword} {tk : TA} {g : List Value → List Value → List Value} {gV : List V → List V → List V}
/-- f(k=e, ..): by keywords alone -/
def tCallKO (m : Nat) (sp : Sp) (gV : List V → List V → List V) (E : XK) (tk : TA) : TE := fun σ H Q => tk σ H fun zs H2 => zs.length = m ∧ sp (gV [] zs) H2 Q E
theorem pe_callKO (F : FnOk X.prog X.w X.K X.mg X.base CX k f fd ps sp) (hr : Room k X.A) (hg : Gl X x) (hm : X.mg x = some (.ref f)) (hk : PySem.W.keepIn X.K (.ref f) = true) (hb : KBn X.K fd ps 0 ks g gV) (hx : Passes CX X E) (hkw : PK X kws tk)
    (hall : ((backToKw pos (keywordEach kws X.env)).all fun x => x.1.isSome) = true := by rfl) (hks : List.filterMap (fun x => x.1) (backToKw pos (keywordEach kws X.env)) = ks := by rfl) (hdb : (x == Str.ofString "__debug__") = false := by decide)
    (hpl : (((backTo pos (starEach [] X.env)).any fun x => x.1) || (backToKw pos (keywordEach kws X.env)).any fun x => x.1.isNone) = false := by rfl) :
    PE X (.Call (.Name x p) [] kws pos) (tCallKO ks.length sp gV E tk) := by
  refine ⟨fun pins s σ H Q I h => ?_⟩
  refine wpAny_Call_Name_kw (ld_glob I hg hm ?_ hdb)
  refine PySem.W.callWith_KW0 I.ok.mod.kin hk hall (thn (hkw.run pos pins s σ H _ I h) fun ws s2 z => ?_) hpl
  obtain ⟨zs, H2, I2, rz, l2, q2⟩ := z
  refine ⟨I2.kIn, ?_⟩
  rw [hks]
  exact run_fnN (us := []) (vs := []) F hr hb hx I2 .nil rz rfl l2 q2
end
end Ow
end
section
set_option maxHeartbeats 4000000
/-! `x in o`, `x not in o` and `str(o)` where o is an instance of an own class that defines them. -/
namespace Ow
open PySem PySem.Spec PyProof.Rows L2

theorem unlessNone_fn {K : PySem.W.Frag} {M : Model} {A : Around} {E : Value → Shared → Prop} {s : Shared} {x C f : Addr} {ox : Obj} {od : Option Obj} {name : Str} {args : List Value} {refuse : Sem Value} {Q : Option Value → Shared → Prop}
    (X : K.In s.heap) (I : PySem.W.InstAt s.heap x ox C od) (hs : PySem.W.findIn K (.ref C) name = some (some (.ref f))) (hf : PySem.W.typeIn K (.ref f) = some (.type "function"))
    (h : wpAny M A (call (.ref f) (.ref x :: args)) (fun v => Q (some v)) E s) : wpAny M A (callSpecialUnlessNone? (.ref x) name args refuse) Q E s :=
  wpAny_bind (wpAny_bind (I.type.here ((PySem.W.looks_findIn X hs).here (wpAny_holding (wpAny_bind ((PySem.W.bind_fn X _ hf).here (wpAny_bind (wpAny_mono h (fun _ _ z => wpAny_pure z) fun _ _ z => z))))))))

theorem contains_own {K : PySem.W.Frag} {M : Model} {A : Around} {E : Value → Shared → Prop} {s : Shared} {x C f : Addr} {ox : Obj} {od : Option Obj} {v : Value} {Q : Bool → Shared → Prop}
    (X : K.In s.heap) (I : PySem.W.InstAt s.heap x ox C od) (hs : PySem.W.findIn K (.ref C) "__contains__" = some (some (.ref f))) (hf : PySem.W.isFn K (.ref f) = true)
    (h : wpAny M A (call (.ref f) [.ref x, v]) (fun r s' => ∃ b, r = .bool b ∧ Q b s') E s) : wpAny M A (contains (.ref x) v) Q E s := by
  unfold contains
  refine wpAny_holding ?_
  refine wpAny_bind (m := specialOf (.ref x) "__contains__") (wpAny_bind (I.type.here ((PySem.W.looks_findIn X hs).here ?_)))
  dsimp only
  rw [if_neg (show ¬ (some (Value.ref f) == some Value.none) = true from fun z => by cases z)]
  refine wpAny_bind (m := callSpecialUnlessNone? (.ref x) (Str.ofString "__contains__") [v] _) (unlessNone_fn X I hs (beq_iff_eq.mp hf) (wpAny_mono h (fun r s' z => ?_) fun _ _ z => z))
  obtain ⟨b, rfl, q⟩ := z
  exact wpAny_truthy_bool q

section
variable {X : Cx} {CX : CXT} {n : Nat} {C g : Addr} {sp : Sp} {E : XK}
/-- x in o, o an instance of C -/
def rInO (C : Addr) (sp : Sp) (E : XK) (f : Bool → Bool) : R2 := fun x y H Q => ∃ a, y = .ref a ∧ InsAt H a C ∧ sp [y, x] H (fun v H' => ∃ b, v = .bl b ∧ Q (.bl (f b)) H') E
theorem op_inO (hs : PySem.W.findIn X.K (.ref C) "__contains__" = some (some (.ref g))) (hf : PySem.W.isFn X.K (.ref g) = true)
    (F : FnR X.prog X.w X.K X.mg X.base CX n g sp) (hr : Room n X.A) (hx : Passes CX X E) : OpR X (compareOp .In) (rInO C sp E id) := by
  intro pins s σ H x y v u Q I rx ry h
  obtain ⟨a, rfl, ha, q⟩ := h
  cases (show u = Value.ref a from ry)
  obtain ⟨ox, od, J⟩ := inst_of I ha
  obtain ⟨m, hF⟩ := I.fr
  refine wpAny_bind (contains_own (I.ok.mod.kin.keeps hF.keep) J hs hf ?_)
  refine wpAny_mono (wpAny_call (run_fnR (us := [.ref a, v]) (vs := [.ref a, x]) F hr hx I (.cons rfl (.cons rx .nil)) q)) (fun w s' z => ?_) fun _ _ x => x
  obtain ⟨z', H', I', rz, b, rfl, qz⟩ := z
  exact ⟨b, rz, wpAny_pure ⟨.bl b, H', I', rfl, qz⟩⟩
theorem op_notInO (hs : PySem.W.findIn X.K (.ref C) "__contains__" = some (some (.ref g))) (hf : PySem.W.isFn X.K (.ref g) = true)
    (F : FnR X.prog X.w X.K X.mg X.base CX n g sp) (hr : Room n X.A) (hx : Passes CX X E) : OpR X (compareOp .NotIn) (rInO C sp E fun b => !b) := by
  intro pins s σ H x y v u Q I rx ry h
  obtain ⟨a, rfl, ha, q⟩ := h
  cases (show u = Value.ref a from ry)
  obtain ⟨ox, od, J⟩ := inst_of I ha
  obtain ⟨m, hF⟩ := I.fr
  refine wpAny_bind (contains_own (I.ok.mod.kin.keeps hF.keep) J hs hf ?_)
  refine wpAny_mono (wpAny_call (run_fnR (us := [.ref a, v]) (vs := [.ref a, x]) F hr hx I (.cons rfl (.cons rx .nil)) q)) (fun w s' z => ?_) fun _ _ x => x
  obtain ⟨z', H', I', rz, b, rfl, qz⟩ := z
  exact ⟨b, rz, wpAny_pure ⟨.bl (!b), H', I', rfl, qz⟩⟩
/-- a callee runs further down than the body -/
theorem run_fnRS {pins : List (Addr × Obj)} {σ : L2.St} {H : Hp} {s : Shared} {A : Around} {Q : VK} {us : List Value} {vs : List V} (F : FnR X.prog X.w X.K X.mg X.base CX n g sp) (hr : Room n A) (hfr : A.frames = X.A.frames) (hx : Passes CX X E) (I : Inv X pins σ H s) (r : Vals vs us) (h : sp vs H Q E) :
    codeAny (model X.prog X.w) A (.call (.ref g) ⟨us, []⟩) (fun r s' => match r with | .ok (.ret v) => EP X pins σ Q v s' | .ok _ => False | .error e => X.xe e s') s := by
  have e0 : Env0 X.prog X.w X.K X.mg X.base A X.stack s H := by
    have e := I.env0
    exact ⟨by rw [hfr]; exact e.frames, e.mod, e.bs, e.bsz, e.funs, e.frf, e.hok, e.bare⟩
  refine codeAny_mono (F A X.stack s H us vs Q E hr e0 r h) fun r s' hq => ?_
  cases r with
  | error e => exact hx pins σ H s e s' I hq
  | ok fl =>
    cases fl with
    | ret u => exact I.after hq
    | next => exact False.elim hq
    | brk => exact False.elim hq
    | cont => exact False.elim hq
/-- str(o), o an instance of C that has a __str__ -/
def rStrO (C : Addr) (sp : Sp) (E : XK) : List V → Hp → VK → Prop := fun xs H Q => ∃ a, xs = [.ref a] ∧ InsAt H a C ∧ sp [.ref a] H (fun v H' => ∃ t, v = .str t ∧ Q (.str t) H') E
theorem call_strO (hs : PySem.W.findIn X.K (.ref C) "__str__" = some (some (.ref g))) (hf : PySem.W.isFn X.K (.ref g) = true)
    (F : FnR X.prog X.w X.K X.mg X.base CX n g sp) (hr : Room (n + 2) X.A) (hx : Passes CX X E) : CallR X (.type "str") (rStrO C sp E) := by
  intro pins s σ H xs us Q I r h
  obtain ⟨a, rfl, ha, q⟩ := h
  obtain ⟨u, rfl, ru⟩ := vals1 r
  cases (show u = Value.ref a from ru)
  obtain ⟨ox, od, J⟩ := inst_of I ha
  obtain ⟨m, hF⟩ := I.fr
  refine PySem.W.kso_call hr.in1.in1.units0 (I.ok.mod.kin.keeps hF.keep) J hs hf ?_
  refine wpAny_mono (wpAny_call (run_fnRS (us := [.ref a]) (vs := [.ref a]) F hr.in1.in1 rfl hx I (.cons rfl .nil) q)) (fun w s' z => ?_) fun _ _ x => x
  obtain ⟨z', H', I', rz, t, rfl, qz⟩ := z
  obtain ⟨tk, rfl⟩ := rz
  exact ⟨.str t, H', I', ⟨tk, rfl⟩, qz⟩
end
end Ow
end
section
set_option maxHeartbeats 4000000
/-! The end of a law whose def hands lambdas over and asks repr of containers: nothing is being shown, and the codes' tables are told. -/
namespace Ow
open PySem PySem.Spec PyProof.Rows L2 StX
section
variable {P : Program} {w : World} {K : PySem.W.Frag} {mg mb : Str → Option Value} {k : Nat} {fa a c T : Addr} {sp : Sp} {s1 : Shared} {vs : List Value} {ns : List Int}
/-- a table that is still empty -/
abbrev tab0 : Obj := { cls := .none, data := .fields #[] }
/-- what stands in the abstract heap at the begin: the table, and perhaps the script -/
structure Begin (K : PySem.W.Frag) (h : Heap) (T : Addr) (H : Hp) : Prop where
  tab : H T = some (.tbl #[])
  rest : ∀ b, b ≠ T → H b = none ∨ ∃ o xs items n, H b = some (.frz o (.lst xs)) ∧ K.lookup b = none ∧ h.get? b = some o ∧ o.data = .seq items n
theorem end_fromT (KX : K.In s1.heap) (hns : s1.heap.Ns mainGlobals mg) (hb : s1.heap.Ns builtinsNs mb) (hbb : ∀ x : Str, x ≠ "__name__" → mb x = bootBuiltins x) (hlim : s1.heap.NoLimit) (hg : s1.gens = #[]) (hr : Room k callerA)
    (eT : s1.heap.get? T = some tab0) (nT : K.lookup T = none) (cT : PySem.W.CodeHd s1.heap c T)
    (main : ∃ (m : Addr) (o : Obj), mg "__builtins__" = some (.ref m) ∧ m ≠ builtinsNs ∧ s1.heap.get? m = some o ∧ o.cls = .type "module" ∧ o.dict = some builtinsNs ∧ o.data = .plain)
    (F : ∀ base : Heap, K.In base → base.Ns mainGlobals mg → LamX.TabB base mg c T → FnG P w K mg base CX0 k fa sp) {H : Hp} (B : Begin K s1.heap T H) (hok : HOk P w H s1.heap)
    (hsp : sp [.ref a] H (fun v _ => v = .bl true) fun _ _ _ => False) :
    codeAny (model P w) callerA (.call (.ref fa) ⟨[.ref a], []⟩) (fun r s' => r = .ok (.ret (.bool true)) ∧ OldK s1.heap s'.heap ∧ s'.os = s1.os ∧ AllBare s'.gens) s1 := by
  let base := hidT s1.heap H
  have free : ∀ {b : Addr} {o : Obj}, s1.heap.get? b = some o → (∀ items n, o.data ≠ .seq items n) → o.data ≠ .fields #[] → base.get? b = some o := fun {b o} e d1 d2 => by
    refine hidT_get e ?_
    by_cases q : b = T
    · rw [q, eT] at e
      cases e
      exact (d2 rfl).elim
    · rcases B.rest b q with z | ⟨o2, xs, items, n, _, _, e2, z⟩
      · exact z
      · rw [e] at e2
        cases e2
        exact (d1 _ _ z).elim
  have names : ∀ {b : Addr} {m : Str → Option Value}, s1.heap.Ns b m → base.Ns b m := fun z => by
    obtain ⟨o, es, ep, e, d, r⟩ := z
    exact ⟨o, es, ep, free e (fun _ _ y => by rw [d] at y; cases y) (fun y => by rw [d] at y; cases y), d, r⟩
  have hK : K.In base := fun b o e => by
    refine hidT_get (KX b o e) ?_
    by_cases q : b = T
    · rw [q, nT] at e
      cases e
    · rcases B.rest b q with z | ⟨o2, xs, items, n, _, z, _⟩
      · exact z
      · rw [e] at z
        cases z
  have lim : base.NoLimit := by
    obtain ⟨m, h1, h2⟩ := hlim
    exact ⟨m, names h1, h2⟩
  have TB : LamX.TabB base mg c T := by
    refine ⟨?_, ?_, fun z => ?_⟩
    · obtain ⟨o, us, file, tf, flags, tg, inF, text, tt, e1, p1, p2, p3, p4, p5, p6, p7, p8, p9⟩ := cT
      exact ⟨o, us, file, tf, flags, tg, inF, text, tt, free e1 (fun _ _ y => by rw [p2] at y; cases y) (fun y => by rw [p2] at y; cases y; simp at p3), p1, p2, p3, p4, p5, p6, p7, p8, p9⟩
    · obtain ⟨m, o, q1, q2, q3, q4, q5, q6⟩ := main
      refine ⟨m, o, q1, q2, fun y => ?_, fun y => ?_, free q3 (fun _ _ y => by rw [q6] at y; cases y) (fun y => by rw [q6] at y; cases y), q4, q5, q6⟩
      · obtain ⟨og, es, ep, e, d, _⟩ := hns
        rw [y, e] at q3
        cases q3
        rw [q6] at d
        cases d
      · rw [y, eT] at q3
        cases q3
        cases q6
    · obtain ⟨og, es, ep, e, d, _⟩ := hns
      rw [z, eT] at e
      cases e
      cases d
  have e0 : Env0 P w K mg base callerA [] s1 H :=
    { frames := rfl, mod := ⟨hK, names hns, ⟨mb, names hb, hbb⟩, lim⟩, bs := fun b o e => of_hidT e, bsz := Nat.le_of_eq (hidT_size _ _), funs := trivial, frf := fun b hb => (List.not_mem_nil hb).elim, hok := hok, bare := .of_eq hg }
  refine codeAny_mono (F base hK (names hns) TB callerA [] s1 H [.ref a] [.ref a] _ _ hr rfl e0 (.cons rfl .nil) hsp) fun r s' h => ?_
  cases r with
  | error e => exact False.elim h
  | ok fl =>
    cases fl with
    | next => exact False.elim h
    | brk => exact False.elim h
    | cont => exact False.elim h
    | ret u =>
      obtain ⟨v, H2, os, bare, un, ok2, rv, q⟩ := h
      subst q
      cases rv
      have still : ∀ b o, b ≠ T → s1.heap.get? b = some o → s'.heap.get? b = some o := fun b o nb e => by
        rcases B.rest b nb with z | ⟨o2, xs, items, n, z, _⟩
        · exact un.keep b o e z (fun y => List.not_mem_nil y) (fun y => List.not_mem_nil y)
        · have e1 := (hok b _ z).1
          have e2 := (ok2 b _ (un.frzs b o2 _ z)).1
          rw [e] at e1
          cases e1
          exact e2
      obtain ⟨more, z⟩ := un.tbls T #[] B.tab
      have wide := ok2 T _ z
      refine ⟨rfl, ⟨fun b o e => ?_, fun b o e => ?_⟩, os, bare⟩
      · by_cases q : b = T
        · subst q
          rw [eT] at e
          cases e
          exact .inr (.inl ⟨(cT.tab eT).isCodeTable, rfl, #[], _, rfl, by rw [Array.empty_append]; exact wide⟩)
        · exact .inl (still b o q e)
      · by_cases q : b = T
        · subst q
          exact ⟨_, wide⟩
        · exact ⟨o, still b o q e⟩
theorem end_callT (KX : K.In s1.heap) (hns : s1.heap.Ns mainGlobals mg) (hb : s1.heap.Ns builtinsNs mb) (hbb : ∀ x : Str, x ≠ "__name__" → mb x = bootBuiltins x) (hlim : s1.heap.NoLimit) (hg : s1.gens = #[]) (hr : Room k callerA)
    (eT : s1.heap.get? T = some tab0) (nT : K.lookup T = none) (cT : PySem.W.CodeHd s1.heap c T)
    (main : ∃ (m : Addr) (o : Obj), mg "__builtins__" = some (.ref m) ∧ m ≠ builtinsNs ∧ s1.heap.get? m = some o ∧ o.cls = .type "module" ∧ o.dict = some builtinsNs ∧ o.data = .plain)
    (ha : s1.heap.get? a = some { cls := .type "list", data := .seq vs.toArray }) (hi : IntsAre vs ns) (hl : ns.length ≤ sizeLine) (F : ∀ base : Heap, K.In base → base.Ns mainGlobals mg → LamX.TabB base mg c T → FnG P w K mg base CX0 k fa sp)
    (hsp : ∀ H : Hp, H T = some (.tbl #[]) → SqL K H a (ns.map V.int) → sp [.ref a] H (fun v _ => v = .bl true) fun _ _ _ => False) :
    codeAny (model P w) callerA (.call (.ref fa) ⟨[.ref a], []⟩) (fun r s' => r = .ok (.ret (.bool true)) ∧ OldK s1.heap s'.heap ∧ s'.os = s1.os ∧ AllBare s'.gens) s1 := by
  have rv := vals_ints hi
  have hl2 : (ns.map V.int).length ≤ sizeLine := by rw [List.length_map]; exact hl
  have naT : a ≠ T := fun z => by
    rw [z, eT] at ha
    cases ha
  cases hk : K.lookup a with
  | some o =>
    have e := KX a o hk
    rw [ha] at e
    cases e
    let H : Hp := fun b => if b = T then some (.tbl #[]) else none
    have HT : H T = some (.tbl #[]) := if_pos rfl
    have HN : ∀ b, b ≠ T → H b = none := fun b n => if_neg n
    refine end_fromT KX hns hb hbb hlim hg hr eT nT cT main F (H := H) ⟨HT, fun b n => .inl (HN b n)⟩ (fun b u z => ?_) (hsp H HT ?_)
    · by_cases q : b = T
      · subst q
        rw [HT] at z
        cases z
        exact eT
      · rw [HN b q] at z
        cases z
    · exact .inr ⟨_, vs.toArray, _, hk, rfl, rfl, rfl, by rw [List.size_toArray, hi.length]; exact hl, by simpa using rv⟩
  | none =>
    let o : Obj := { cls := .type "list", data := .seq vs.toArray }
    let H : Hp := fun b => if b = a then some (.frz o (.lst (ns.map V.int))) else if b = T then some (.tbl #[]) else none
    have HA : H a = some (.frz o (.lst (ns.map V.int))) := if_pos rfl
    have HT : H T = some (.tbl #[]) := by show (if T = a then _ else _) = _; rw [if_neg (Ne.symm naT), if_pos rfl]
    have HN : ∀ b, b ≠ a → b ≠ T → H b = none := fun b n n2 => by show (if b = a then _ else _) = _; rw [if_neg n, if_neg n2]
    refine end_fromT KX hns hb hbb hlim hg hr eT nT cT main F (H := H) ⟨HT, fun b n => ?_⟩ (fun b u z => ?_) (hsp H HT (.inl (.inr ⟨_, HA⟩)))
    · by_cases q : b = a
      · subst q
        exact .inr ⟨o, _, _, _, HA, hk, ha, rfl⟩
      · exact .inl (HN b q n)
    · by_cases q : b = a
      · subst q
        rw [HA] at z
        cases z
        exact ⟨ha, hl2, vs, _, rv, ha⟩
      · by_cases q2 : b = T
        · subst q2
          rw [HT] at z
          cases z
          exact eT
        · rw [HN b q q2] at z
          cases z
end
/-- what is to be known of the law's promise at the head's heap -/
def LawT (l : PySem.W.OpenLaw) (w : World) (K : PySem.W.Frag) (k n : Nat) (mg : Str → Option Value) (fa : Addr) (h : Heap) : Prop :=
  ∃ (c T : Addr) (sp : Sp), h.get? T = some tab0 ∧ K.lookup T = none ∧ PySem.W.CodeHd h c T ∧
    (∀ (H : Hp) (a : Addr) (ns : List Int), ns.length ≤ n → H T = some (.tbl #[]) → SqL K H a (ns.map V.int) → sp [.ref a] H (fun v _ => v = .bl true) fun _ _ _ => False) ∧
    ∀ base : Heap, K.In base → base.Ns mainGlobals mg → LamX.TabB base mg c T → FnG l.prog w K mg base CX0 k fa sp
theorem walk_ofTG {l : PySem.W.OpenLaw} {n k : Nat} {q : Program} {loose : List Str} {XP : (Str → Option Value) → Heap → Prop} {YP : World → Heap → Prop} {d : DefRec} {K : Params → PySem.W.Frag}
    (hn : l.most = some n) (hn2 : n ≤ sizeLine) (hdf : d.params.defaults = []) (hr : Room k callerA) (hY : ∀ (w : World) (h : Heap), YP w h → (K w.params).In h)
    (F : ∀ (w : World) (mg : Str → Option Value) (fa : Addr) (h : Heap), YP w h → (K w.params).In h → h.Ns mainGlobals mg → mg d.name = some (.ref fa) → LawT l w (K w.params) k n mg fa h) :
    PySem.W.WalkO q loose XP YP l.row.toRowW d [] (fun f vs => PySem.call f vs) := by
  refine Att.attach_call hn hdf fun w s0 s1 mg mb fa o pm cd doc a vs ns G Y ho hd hcd hmg hobj hints hlen hg => ?_
  have KX := hY w _ Y
  obtain ⟨c, T, sp, eT, nT, cT, hsp, hF⟩ := F w mg fa _ Y KX G.T.g hmg
  exact end_callT KX G.T.g G.T.b G.T.builtins G.T.nolimit hg hr eT nT cT G.T.bmain hobj hints (Nat.le_trans hlen hn2) hF fun H hH hS => hsp H a ns hlen hH hS
end Ow
end
section
set_option maxHeartbeats 4000000
/-! A law's def, its code told, called while nothing is being shown; what stays when a lambda is made. -/
namespace Ow
open PySem PySem.Spec PyProof.Rows L2 StX
section
variable {P : Program} {w : World} {K : PySem.W.Frag} {mg : Str → Option Value} {base : Heap} {x qual : Str} {st : Stmt} {f c : Addr}
theorem FnC.okG {N ps : List Str} {k : Nat} {sp : Sp} (F : FnC K x qual st f c) (S : FnScope N ps (defScope st))
    (hb : ∀ (kV doc pm : Value) (an : Option Addr) (cdv ct : Value) (us : List Value), us.length = ps.length → bindArgs (PySem.W.fnOf x qual (defArgs st) (defBody st) (defScope st) .none kV doc pm an cdv ct) ⟨us, []⟩ = pure (ps.zip us))
    (len : ∀ vs H Q E, sp vs H Q E → vs.length = ps.length)
    (hbody : ∀ (A : Around) (outer : List Env) (s : Shared) (H : Hp) (vs : List V) (Q : VK) (E : XK), Room k (A.deeper (envOfC qual (defScope st) s.heap.objs.size f (.ref c))) → A.guards = some [] → sp vs H Q E →
      ∃ t, PSs (cxOf CX0 P w K mg base N qual (defScope st) f (.ref c) A outer s H E).nox (defBody st) t ∧ t { nx := fun _ H' => Q .non H', rt := Q } (start N vs) H) : FnG P w K mg base CX0 (k + 1) f sp := by
  obtain ⟨oc, od, an, kV, doc, pm, ct, osl, lk, hcd⟩ := F
  intro A outer s H us vs Q E hr hg e0 r hs
  have hv := len _ _ _ _ hs
  refine LamX.run_ofS lk hcd S hr e0 (BindsTo.of_eq (hb kV doc pm an (.ref c) ct us (r.length.symm.trans hv))) r hv fun hr2 => ?_
  obtain ⟨t, h, q⟩ := hbody A outer s H vs Q E hr2 hg hs
  exact ⟨t, h.nox, q⟩
end
section
variable {K : PySem.W.Frag} {H H' : Hp} {v : V} {t : Value}
theorem TyOf.extN (h : TyOf K H v t) (m : LamX.ExtN H H') : TyOf K H' v t := by
  cases h with
  | non => exact .non
  | bl x => exact .bl x
  | int i => exact .int i
  | str x => exact .str x
  | flt x => exact .flt x
  | lst h => exact .lst (m _ _ h fun _ z => by cases z)
  | frz h => exact .frz (m _ _ h fun _ z => by cases z)
  | tup h => exact .tup (m _ _ h fun _ z => by cases z)
  | dK h => exact .dK (m _ _ h fun _ z => by cases z)
  | dT h => exact .dT (m _ _ h fun _ z => by cases z)
  | ins h c a b d e => exact .ins (m _ _ h fun _ z => by cases z) c a b d e
theorem TyX.extN (h : TyX K H v t) (m : LamX.ExtN H H') : TyX K H' v t := by
  cases h with
  | base h => exact .base (TyOf.extN h m)
  | byt b => exact .byt b
  | set h => exact .set (m _ _ h fun _ z => by cases z)
  | kList h c => exact .kList h c
  | kTuple h c => exact .kTuple h c
  | kDict h c => exact .kDict h c
  | fTuple h => exact .fTuple (m _ _ h fun _ z => by cases z)
  | fDict h => exact .fDict (m _ _ h fun _ z => by cases z)
theorem NoInt.extN (h : NoInt K H v) (m : LamX.ExtN H H') : NoInt K H' v := by
  rcases h with h | ⟨t, h, q⟩
  · exact .inl h
  · exact .inr ⟨t, TyX.extN h m, q⟩
end
end Ow
end
section
set_option maxHeartbeats 4000000
/-! A def with defaults: its promise as FnOk, by place and by keywords. -/
namespace Ow
open PySem PySem.Spec PyProof.Rows L2 StX
section
variable {P : Program} {w : World} {K : PySem.W.Frag} {mg : Str → Option Value} {base : Heap} {CX : CXT} {x qual : Str} {params : Arguments} {body : List Stmt} {scope : PySem.Scope} {dvs : List V} {f : Addr} {fd : FuncData} {ps : List Str} {k : Nat} {sp : Sp}
/-- n arguments by place, the defaults behind the first j fill up -/
theorem posR (F : FunD K x qual params body scope dvs [] f fd) (ok : FnOk P w K mg base CX k f fd ps sp) (n j : Nat) (hd : dvs ≠ []) (hn : n + (dvs.length - j) = ps.length)
    (hb : ∀ (T : Addr) (kV doc pm : Value) (an : Option Addr) (cdv ct : Value) (us its : List Value), us.length = n → its.length = dvs.length →
      ∃ k, bindArgs (PySem.W.fnOf x qual params body scope (.ref T) kV doc pm an cdv ct) ⟨us, []⟩ = seqItems? (.ref T) >>= k ∧ k (some its.toArray) = pure (ps.zip (us ++ its.drop j))) : FnR P w K mg base CX k f (fun vs H Q E => sp (vs ++ dvs.drop j) H Q E) := by
  obtain ⟨ds, hds, b⟩ := F.binds1 n j hd hn hb
  exact ok.raw b hds
end
end Ow
end
section
set_option maxHeartbeats 4000000
/-! An instance called by keywords alone; a def without defaults called by keywords; a def called without arguments. -/
namespace Ow
open PySem PySem.Spec PyProof.Rows L2 StX
section
variable {K : PySem.W.Frag} {x qual : Str} {params : Arguments} {body : List Stmt} {scope : PySem.Scope} {f : Addr} {fd : FuncData} {ps ks : List Str} {n : Nat} {g : List Value → List Value → List Value} {gV : List V → List V → List V}
/-- keywords at a def without defaults -/
theorem kbn0 (F : FunD K x qual params body scope [] [] f fd) (hrel : ∀ {vs zs : List V} {us ws : List Value}, Vals vs us → Vals zs ws → Vals (gV vs zs) (g us ws))
    (hb : ∀ (kV doc pm : Value) (an : Option Addr) (cdv ct : Value) (us ws : List Value), us.length = n → ws.length = ks.length → bindArgs (PySem.W.fnOf x qual params body scope .none kV doc pm an cdv ct) ⟨us, ks.zip ws⟩ = pure (ps.zip (g us ws))) : KBn K fd ps n ks g gV := by
  obtain ⟨oc, od, dV, kV, doc, pm, an, cdv, ct, osl, rfl, lk, hcd, hD, hK⟩ := F.ex
  rcases hD with ⟨_, rfl⟩ | ⟨e, _⟩
  · exact ⟨fun s us ws _ hu hw => BindsTo.of_eq (hb kV doc pm an cdv ct us ws hu hw), hrel⟩
  · exact absurd rfl e
end
theorem callKW_of {M : Model} {A : Around} {E : Value → Shared → Prop} {s : Shared} {a : Addr} {p : Pos} {Q : Value → Shared → Prop} {as : List (Bool × Sem Value)} {kws : List (Option Str × Sem Value)} (np : (as.any (·.1) || kws.any (·.1.isNone)) = false)
    (h : wpAny M A (evalArgs (.ref a) true as kws) (fun z s1 => (∃ C ox od, PySem.W.InstAt s1.heap a ox C od ∧ ox.data = .plain) ∧ wpAny M A (call (.ref a) z.pos z.kw) Q E s1) E s) : wpAny M A (callWith p (.ref a) [] as kws) Q E s := by
  unfold callWith
  refine wpAny_bind (wpAny_holding (wpAny_mono h (fun z s1 y => wpAny_bind (wpAny_standAt ?_)) fun _ _ e => e))
  obtain ⟨⟨C, ox, od, J, hd⟩, y⟩ := y
  simp only [np]
  refine wpAny_bind ((PySem.W.kco_keeper (M := M) J hd).here ?_)
  exact wpAny_bind (wpAny_mono (wpAny_operateT y) (fun r s2 hr => wpAny_bind (wpAny_holding (wpAny_point (wpAny_pure hr)))) fun _ _ e => e)
section
variable {X : Cx} {CX : CXT} {k n : Nat} {f C : Addr} {fd : FuncData} {ps ks : List Str} {sp : Sp} {E : XK} {x : Str} {p pos : Pos} {fe : Expr} {kws : List Keyword} {tf : TE} {tk : TA} {g : List Value → List Value → List Value} {gV : List V → List V → List V}
/-- o(k=e, ..): o an expression that gives an instance of C -/
def tCallOK (X : Cx) (C : Addr) (m : Nat) (sp : Sp) (gV : List V → List V → List V) (E : XK) (tf : TE) (tk : TA) : TE := fun σ H Q => tf σ H fun y H1 => ∃ a, y = V.ref a ∧ tk σ H1 fun zs H2 => zs.length = m ∧ InsC X H2 a C ∧ sp (gV [V.ref a] zs) H2 Q E
theorem pe_callOK (hf : PE X fe tf) (c : CallO X.K C f) (F : FnOk X.prog X.w X.K X.mg X.base CX k f fd ps sp) (hr : Room k X.A) (hb : KBn X.K fd ps 1 ks g gV) (hx : Passes CX X E) (hkw : PK X kws tk)
    (ht : eval (.Call fe [] kws pos) X.env = (do callWith pos (← eval fe X.env) [] (backTo pos (starEach [] X.env)) (backToKw pos (keywordEach kws X.env))) := by rfl)
    (hall : ((backToKw pos (keywordEach kws X.env)).all fun x => x.1.isSome) = true := by rfl) (hks : List.filterMap (fun x => x.1) (backToKw pos (keywordEach kws X.env)) = ks := by rfl)
    (hpl : (((backTo pos (starEach [] X.env)).any fun x => x.1) || (backToKw pos (keywordEach kws X.env)).any fun x => x.1.isNone) = false := by rfl) : PE X (.Call fe [] kws pos) (tCallOK X C ks.length sp gV E tf tk) := by
  refine ⟨fun pins s σ H Q I h => ?_⟩
  rw [ht]
  refine wpAny_bind (thn (hf.run pins s σ H _ I h) fun u s1 ⟨y, H1, I1, ry, a, ey, q⟩ => ?_)
  subst ey
  obtain rfl : u = Value.ref a := ry
  refine callKW_of hpl (evalArgs_kw2_nil hall (thn (hkw.run pos pins s1 σ H1 _ I1 q) fun ws s2 ⟨zs, H2, I2, rz, l2, hi, q2⟩ => ?_))
  obtain ⟨ox, od, J, hd⟩ := insC_at I2 hi
  refine ⟨⟨C, ox, od, J, hd⟩, ?_⟩
  rw [hks]
  have r1 : Vals [V.ref a] [Value.ref a] := .cons rfl .nil
  refine wpAny_call (PySem.W.kco_code I2.kIn J hd c.at_ c.fn c.fi (codeAny_mono (F.run X.A X.stack s2 H2 ⟨[.ref a], ks.zip ws⟩ (g [.ref a] ws) (gV [.ref a] zs) Q E hr I2.env0 (hb.to s2 [.ref a] ws I2.kIn rfl (rz.length.symm.trans l2)) (hb.rel r1 rz) q2) fun r s' hq => ?_))
  cases r with
  | error e => exact hx pins σ H2 s2 e s' I2 hq
  | ok fl =>
    cases fl with
    | ret u => exact I2.after hq
    | next => exact False.elim hq
    | brk => exact False.elim hq
    | cont => exact False.elim hq
/-- o(e, ..), told without the context (for a lambda's body) -/
def tCallOI (C : Addr) (sp : Sp) (E : XK) (tf : TE) (t : TA) : TE := fun σ H Q => tf σ H fun y H1 => ∃ a, y = V.ref a ∧ t σ H1 fun vs H2 => InsAt H2 a C ∧ sp (V.ref a :: vs) H2 Q E
theorem pe_callOI {g : Addr} {e : Expr} {es : List Expr} {t : TA} (hf : PE X fe tf) (c : CallO X.K C g) (F : FnR X.prog X.w X.K X.mg X.base CX k g sp) (hr : Room k X.A) (hx : Passes CX X E) (ha : PA X (e :: es) t)
    (ht : eval (.Call fe (e :: es) [] pos) X.env = (do callWith pos (← eval fe X.env) [] (backTo pos (starEach (e :: es) X.env)) (backToKw pos (keywordEach [] X.env))) := by rfl)
    (he : starEach (e :: es) X.env = (false, eval e X.env) :: starEach es X.env := by rfl) (hpl : (backTo pos (starEach es X.env)).any (·.1) = false := by rfl) : PE X (.Call fe (e :: es) [] pos) (tCallOI C sp E tf t) := by
  constructor
  intro pins s σ H Q I h
  rw [ht]
  refine wpAny_bind (thn (hf.run pins s σ H _ I h) fun u s1 z => ?_)
  obtain ⟨y, H1, I1, ry, a, rfl, q⟩ := z
  obtain rfl : u = Value.ref a := ry
  refine callO_with (thn (ha.run pos pins s1 σ H1 _ I1 q) fun us s2 z => ?_) he hpl
  obtain ⟨vs, H2, I2, r, ⟨dx, fs, hi⟩, q2⟩ := z
  have hc : InsC X H2 a C := .inr ⟨dx, fs, hi⟩
  obtain ⟨ox, od, J, hd⟩ := insC_at I2 hc
  exact ⟨⟨C, ox, od, J, hd⟩, run_callO c F hr hx I2 hc r q2⟩
end
end Ow
end
section
set_option maxHeartbeats 4000000
/-! Own errors as values: made, by place or by keywords, their fields read, their classes asked. -/
namespace PySem
namespace OwX
open Builtin Builtin.ObjectAttr HandSPX
section
variable {M : Model} {A : Around} {E : Value → Shared → Prop} {h : Heap} {g : Array GenState} {d : Drawn} {t : Nat} {os : OsState}
variable {nm q : Str} {C N : Addr} {bs bm bmB : List Value} {hdct : Bool} {sn : List Str} {sub : List Value} {ab : Bool} {col : Option Bool} {dd : Option Addr} {k0 k1 k2 k3 k5 : Option Value} {B newId initId : String}
theorem check_new_kw (F : ExcBaseFacts B newId initId bmB) (hT : ∀ X : String, bm.contains (.type X) = bmB.contains (.type X)) {rest : List Value} {kw : List (Str × Value)} {Q : Unit → Shared → Prop}
    (hC : h.get? C = some (excClassObj nm q C N bs bm hdct sn sub ab col dd k0 k1 k2 k3 k5 newId)) (hq : Q () ⟨h, g, d, t, os⟩) : wpAny M A (checkBuiltinCall newId ⟨.ref C :: rest, kw⟩) Q E ⟨h, g, d, t, os⟩ := by
  have hcont : (Value.ref C :: bm).contains (.type B) = true := by rw [List.contains_cons, hT, F.hasB, Bool.or_true]
  have hstar := F.noStar
  simp only [checkBuiltinCall, F.newKind, F.newSplit, F.newRow]
  repeat (first | refine wpAny_loadPart_at hC ?_ | (refine wpAny_isSubtype_exc hC ?_; rw [hcont]) | refine wpAny_staticBase_exc hC ?_ | refine wpAny_madeBy_exc hC ?_ | simp only [bne_self_eq_false, Bool.false_eq_true, if_false] | wp_step)
  exact hq
end
section
variable {prog : Program} {w : World} {A : Around} {E : Value → Shared → Prop} {R : Result → Shared → Prop} {h : Heap} {g : Array GenState} {d : Drawn} {t : Nat} {os : OsState}
variable {nm q : Str} {C N : Addr} {bs bm bmB : List Value} {hdct : Bool} {sn : List Str} {sub : List Value} {ab : Bool} {col : Option Bool} {dd : Option Addr} {k0 k1 k2 k3 k5 : Option Value} {B newId initId : String}
theorem new_kw (F : ExcBaseFacts B newId initId bmB) (hT : ∀ X : String, bm.contains (.type X) = bmB.contains (.type X)) {rest : List Value} {kw : List (Str × Value)}
    (hC : h.get? C = some (excClassObj nm q C N bs bm hdct sn sub ab col dd k0 k1 k2 k3 k5 newId))
    (hq : R (.ok (.ret (.ref (h.objs.size + 1)))) ⟨(h.push { cls := .type "tuple", data := .seq rest.toArray }).push
      { cls := .ref C, data := .fields #[.ref h.objs.size, .none, .none, .none, .bool false, .none] }, g, d, t, os⟩) (hrest : rest.length ≤ sizeLine) :
    codeAny (model prog w) A (.builtin newId ⟨.ref C :: rest, kw⟩) R ⟨h, g, d, t, os⟩ := by
  have hends := F.ends
  have hcB : (Value.ref C :: bm).contains (.type B) = true := by rw [List.contains_cons, hT, F.hasB, Bool.or_true]
  have hcA : (Value.ref C :: bm).contains (.type "AttributeError") = false := by rw [List.contains_cons, hT, F.noAttr]; rfl
  have hcN : (Value.ref C :: bm).contains (.type "NameError") = false := by rw [List.contains_cons, hT, F.noName]; rfl
  refine codeAny_builtinAt F.entry ?_
  unfold Builtin.«BaseException.__new__»
  refine wpAt_bind ?_
  show wpAt _ _ _ (stack >>= _) _ _ _
  refine wpAt_bind (wpAt_stack fun p below => wpAt_of_wpAny ?_)
  wp_walk
  refine wpAt_of_wpAny ?_
  rw [F.owner]
  repeat (first | with_reducible refine wpAny_madeHere_exc F.canon hC ?_ | with_reducible refine wpAny_loadPart_at hC ?_ | (with_reducible refine wpAny_isSubtype_exc hC ?_; first | rw [hcB] | rw [hcA] | rw [hcN]) | wp_step)
  show R _ _
  rw [Heap.size_push]
  exact hq
theorem type_call_kw (F : ExcBaseFacts B newId initId bmB) (hT : ∀ X : String, bm.contains (.type X) = bmB.contains (.type X)) {rest : List Value} {kw : List (Str × Value)} {fI : Addr} {Q : Fin → Shared → Prop}
    (hC : h.get? C = some (excClassObj nm q C N bs bm hdct sn sub ab col dd k0 k1 k2 k3 k5 newId))
    (hi : W.Looks (model prog w) h (typeLookup (.ref C) "__init__") (some (.ref fI))) (hb : ∀ self, W.Looks (model prog w) h (bindSpecial (.ref fI) self) (.ref fI, [self])) (hrest : rest.length ≤ sizeLine)
    (hq : codeAny (model prog w) A (.call (.ref fI) ⟨.ref (h.objs.size + 1) :: rest, kw⟩)
      (fun r s' => match r with | .ok (.ret v) => v = .none ∧ Q (.done (.ret (.ref (h.objs.size + 1)))) s' | .ok _ => False | .error e => E e s')
      ⟨(h.push (W.kdv_tup rest)).push (excO C h.objs.size), g, d, t, os⟩) :
    wpAny (model prog w) A (Builtin.«type.__call__» ⟨.ref C :: rest, kw⟩) Q E ⟨h, g, d, t, os⟩ := by
  repeat (first | with_reducible refine wpAny_loadPart_at hC ?_ | with_reducible refine wpAny_madeBy_exc hC ?_ | wp_step)
  refine codeAny_call_builtin_code (Code.quiet_builtin _ F.quiet) (check_new_kw F hT hC ?_)
  refine new_kw F hT hC ?_ hrest
  show wpAny _ _ _ _ _ _
  have k : ∀ b o, h.get? b = some o → ((h.push (W.kdv_tup rest)).push (excO C h.objs.size)).get? b = some o := fun b o e => Heap.get?_push_of_some _ (Heap.get?_push_of_some _ e)
  have hC₁ := k _ _ hC
  have hget : ((h.push (W.kdv_tup rest)).push (excO C h.objs.size)).get? (h.objs.size + 1) = some (excO C h.objs.size) := by heap_get
  have hcC : (Value.ref C :: bm).contains (.ref C) = true := by simp
  have i1 := hi.keeps k
  have b1 := (hb (.ref (h.objs.size + 1))).keeps k
  unfold isInstance
  repeat (first | with_reducible refine wpAny_loadPart_at hget ?_ | (with_reducible refine wpAny_isSubtype_exc hC₁ ?_; rw [hcC]) | wp_step)
  show wpAny _ _ (typeLookup (.ref C) _) _ _ _
  refine i1.at ?_
  refine wpAny_holding (wpAny_bind (b1.at ?_))
  refine wpAny_bind (wpAny_call (codeAny_mono hq fun r s' z => ?_))
  rcases r with e | (v | _ | _ | _) <;> first | exact z | exact z.elim | skip
  obtain ⟨rfl, z⟩ := z
  first
    | exact wpAny_pure (wpAny_pure z)
    | (wp_walk; exact z)
theorem call_kw (F : ExcBaseFacts B newId initId bmB) (hT : ∀ X : String, bm.contains (.type X) = bmB.contains (.type X)) {rest : List Value} {kw : List (Str × Value)} {fI : Addr}
    (hC : h.get? C = some (excClassObj nm q C N bs bm hdct sn sub ab col dd k0 k1 k2 k3 k5 newId))
    (hi : W.Looks (model prog w) h (typeLookup (.ref C) "__init__") (some (.ref fI))) (hb : ∀ self, W.Looks (model prog w) h (bindSpecial (.ref fI) self) (.ref fI, [self])) (hrest : rest.length ≤ sizeLine)
    (hq : codeAny (model prog w) (A.under (.builtin "type.__call__" ⟨.ref C :: rest, kw⟩)) (.call (.ref fI) ⟨.ref (h.objs.size + 1) :: rest, kw⟩) (W.InitBack (h.objs.size + 1) R)
      ⟨(h.push (W.kdv_tup rest)).push (excO C h.objs.size), g, d, t, os⟩) :
    codeAny (model prog w) A (.call (.ref C) ⟨rest, kw⟩) R ⟨h, g, d, t, os⟩ := by
  have f1 := tc_lookup
  have f2 := tc_bind (.ref C)
  have hTy : (⟨h, g, d, t, os⟩ : Shared).TypeIs (.ref C) "type" := ⟨_, hC, rfl⟩
  refine codeAny_of_tree ?_
  show wpAny _ _ (callAny (.ref C) _) _ _ _
  repeat (any_goals (first | assumption | with_reducible refine wpAny_loadPart_at hC ?_ | wp_step))
  refine ⟨rfl, ?_⟩
  refine codeAny_call_builtin_at (Code.quiet_builtin _ (by decide +kernel)) entry_typeCall (wpAny_check_type_call_sub hC (type_call_kw F hT hC hi hb hrest ?_))
  refine codeAny_mono hq fun r s' z => ?_
  rcases r with e | (v | _ | _ | _) <;> exact z
end
end OwX
end PySem
namespace Ow
open PySem PySem.Spec PyProof.Rows L2 StX
section
variable {X : Cx} {CX : CXT} {x : Str} {C fI : Addr} {k n : Nat} {fd : FuncData} {ps ks : List Str} {sp : Sp} {ds : List Value} {dvs : List V} {E : XK} {p pos : Pos} {e : Expr} {es : List Expr} {kws : List Keyword} {ta tk : TA} {g : List Value → List Value → List Value} {gV : List V → List V → List V}
/-- C(e, ..): a new error, then its __init__; the error is the value -/
def tOex (C : Addr) (sp : Sp) (ta : TA) : TE := fun σ H Q => ta σ H fun vs H1 => vs.length ≤ 1000 ∧ ∀ a, H1 a = none → sp (.ref a :: vs) (upd H1 a (exo a C none)) (fun u H2 => u = .non ∧ Q (.ref a) H2) (fun _ _ _ => False)
theorem pe_oex (T : OexC X.K C) (iC : PySem.W.findIn X.K (.ref C) "__init__" = some (some (.ref fI))) (tI : PySem.W.typeIn X.K (.ref fI) = some (.type "function"))
    (F1 : FnR X.prog X.w X.K X.mg X.base CX (k + 1) fI sp) (hr : Room (k + 2) X.A) (hx : Passes CX X (fun _ _ _ => False)) (hg : Gl X x) (hm : X.mg x = some (.ref C)) (ha : PA X (e :: es) ta)
    (hdb : (x == ("__debug__" : Str)) = false := by decide) (he : starEach (e :: es) X.env = (false, eval e X.env) :: starEach es X.env := by rfl) (hpl : (backTo pos (starEach es X.env)).any (·.1) = false := by rfl) :
    PE X (.Call (.Name x p) (e :: es) [] pos) (tOex C sp ta) := by
  refine ⟨fun pins s σ H Q I h => ?_⟩
  obtain ⟨nm, q, N, bs, bm, sn, sub, ab, col, dd, k0, k1, k2, k3, k5, hC, hbm⟩ := T.cls
  refine wpAny_Call_Name_kw (ld_glob I hg hm ?_ hdb)
  refine PySem.W.callWith_K (h₀ := X.base) I.ok.mod.kin T.kC (thn (ha.run pos pins s σ H _ I h) fun us s1 ⟨vs, H1, I1, r1, hz, q1⟩ => ⟨I1.kIn, ?_⟩) he hpl
  show wpAny _ _ (call (.ref C) us) _ _ _
  obtain ⟨hp, g, dr, tk, os⟩ := s1
  have hsz : hp.objs.size ≤ hp.objs.size + 1 := Nat.le_succ _
  have hn : H1 (hp.objs.size + 1) = none := I1.hok.fresh hsz
  have hq := q1 (hp.objs.size + 1) hn
  have kk : ∀ b o, hp.get? b = some o → ((hp.push (PySem.W.kdv_tup us)).push (PySem.HandSPX.excO C hp.objs.size)).get? b = some o := fun b o e => Heap.get?_push_of_some _ (Heap.get?_push_of_some _ e)
  have hget : ((hp.push (PySem.W.kdv_tup us)).push (PySem.HandSPX.excO C hp.objs.size)).get? (hp.objs.size + 1) = some (PySem.HandSPX.excO C hp.objs.size) := by heap_get
  have I2 : Inv X pins σ (upd H1 (hp.objs.size + 1) (exo (hp.objs.size + 1) C none)) ⟨(hp.push (PySem.W.kdv_tup us)).push (PySem.HandSPX.excO C hp.objs.size), g, dr, tk, os⟩ :=
    I1.laid (t' := tk) (a := hp.objs.size + 1) (o := exo (hp.objs.size + 1) C none) (h' := (hp.push (PySem.W.kdv_tup us)).push (PySem.HandSPX.excO C hp.objs.size)) kk hsz (exo_ok hget)
  have r2 : Vals (V.ref (hp.objs.size + 1) :: vs) (Value.ref (hp.objs.size + 1) :: us) := .cons rfl r1
  have hus : us.length ≤ sizeLine := by
    rw [← Paired.length r1, sizeLine_eq]
    omega
  refine wpAny_call (PySem.HandSPX.call_own F.excBase_ValueError (fun Y => PySem.HandSPX.refsVE_contains Y bm hbm) (I1.kIn _ _ hC) (PySem.W.looks_findIn I1.kIn iC) (fun self => PySem.W.bind_fn I1.kIn self tI) hus
    (codeAny_mono (F1 _ X.stack _ _ (Value.ref (hp.objs.size + 1) :: us) _ _ (fun _ _ _ => False) (hr.make C us []) (I2.env0.make C us []) r2 hq) fun r s' hq' => ?_))
  cases r with
  | error er => exact hx pins σ _ _ er s' I2 hq'
  | ok fl =>
    cases fl with
    | ret u =>
      obtain ⟨v, H', I3, rv, ev, q3⟩ := I2.after hq'
      subst ev
      exact ⟨rv, V.ref (hp.objs.size + 1), H', I3, rfl, q3⟩
    | next => exact False.elim hq'
    | brk => exact False.elim hq'
    | cont => exact False.elim hq'
/-- C(k=e, ..): by keywords alone -/
def tOexK (C : Addr) (m : Nat) (gV : List V → List V → List V) (sp : Sp) (tk : TA) : TE := fun σ H Q => tk σ H fun zs H1 => zs.length = m ∧ ∀ a, H1 a = none → sp (gV [.ref a] zs) (upd H1 a (exo a C none)) (fun u H2 => u = .non ∧ Q (.ref a) H2) (fun _ _ _ => False)
theorem pe_oexK (T : OexC X.K C) (iC : PySem.W.findIn X.K (.ref C) "__init__" = some (some (.ref fI))) (tI : PySem.W.typeIn X.K (.ref fI) = some (.type "function"))
    (F1 : FnOk X.prog X.w X.K X.mg X.base CX k fI fd ps sp) (hr : Room (k + 1) X.A) (hb : KBn X.K fd ps 1 ks g gV) (hx : Passes CX X (fun _ _ _ => False)) (hg : Gl X x) (hm : X.mg x = some (.ref C)) (hkw : PK X kws tk)
    (hall : (backToKw pos (keywordEach kws X.env)).all (·.1.isSome) = true := by rfl) (hks : (backToKw pos (keywordEach kws X.env)).filterMap (·.1) = ks := by rfl) (hdb : (x == ("__debug__" : Str)) = false := by decide)
    (hpl : ((backTo pos (starEach [] X.env)).any (·.1) || (backToKw pos (keywordEach kws X.env)).any (·.1.isNone)) = false := by rfl) :
    PE X (.Call (.Name x p) [] kws pos) (tOexK C ks.length gV sp tk) := by
  refine ⟨fun pins s σ H Q I h => ?_⟩
  obtain ⟨nm, q, N, bs, bm, sn, sub, ab, col, dd, k0, k1, k2, k3, k5, hC, hbm⟩ := T.cls
  refine wpAny_Call_Name_kw (ld_glob I hg hm ?_ hdb)
  refine PySem.W.callWith_KW0 (h₀ := X.base) I.ok.mod.kin T.kC hall (thn (hkw.run pos pins s σ H _ I h) fun ws s1 ⟨zs, H1, I1, rz, l2, q1⟩ => ⟨I1.kIn, ?_⟩) hpl
  rw [hks]
  show wpAny _ _ (call (.ref C) [] (ks.zip ws)) _ _ _
  obtain ⟨hp, g0, dr, tk, os⟩ := s1
  have hsz : hp.objs.size ≤ hp.objs.size + 1 := Nat.le_succ _
  have hn : H1 (hp.objs.size + 1) = none := I1.hok.fresh hsz
  have hq := q1 (hp.objs.size + 1) hn
  have kk : ∀ b o, hp.get? b = some o → ((hp.push (PySem.W.kdv_tup [])).push (PySem.HandSPX.excO C hp.objs.size)).get? b = some o := fun b o e => Heap.get?_push_of_some _ (Heap.get?_push_of_some _ e)
  have hget : ((hp.push (PySem.W.kdv_tup [])).push (PySem.HandSPX.excO C hp.objs.size)).get? (hp.objs.size + 1) = some (PySem.HandSPX.excO C hp.objs.size) := by heap_get
  have I2 : Inv X pins σ (upd H1 (hp.objs.size + 1) (exo (hp.objs.size + 1) C none)) ⟨(hp.push (PySem.W.kdv_tup [])).push (PySem.HandSPX.excO C hp.objs.size), g0, dr, tk, os⟩ :=
    I1.laid (t' := tk) (a := hp.objs.size + 1) (o := exo (hp.objs.size + 1) C none) (h' := (hp.push (PySem.W.kdv_tup [])).push (PySem.HandSPX.excO C hp.objs.size)) kk hsz (exo_ok hget)
  have r1 : Vals [V.ref (hp.objs.size + 1)] [Value.ref (hp.objs.size + 1)] := .cons rfl .nil
  refine wpAny_call (PySem.OwX.call_kw F.excBase_ValueError (fun Y => PySem.HandSPX.refsVE_contains Y bm hbm) (I1.kIn _ _ hC) (PySem.W.looks_findIn I1.kIn iC) (fun self => PySem.W.bind_fn I1.kIn self tI) (Nat.zero_le _)
    (codeAny_mono (F1.run _ X.stack _ _ ⟨[Value.ref (hp.objs.size + 1)], ks.zip ws⟩ (g [Value.ref (hp.objs.size + 1)] ws) _ _ (fun _ _ _ => False) (hr.make C [] (ks.zip ws)) (I2.env0.make C [] (ks.zip ws)) (hb.to _ [Value.ref (hp.objs.size + 1)] ws I2.kIn rfl (rz.length.symm.trans l2)) (hb.rel r1 rz) hq) fun r s' hq' => ?_))
  cases r with
  | error er => exact hx pins σ _ _ er s' I2 hq'
  | ok fl =>
    cases fl with
    | ret u =>
      obtain ⟨v, H', I3, rv, ev, q3⟩ := I2.after hq'
      subst ev
      exact ⟨rv, V.ref (hp.objs.size + 1), H', I3, rfl, q3⟩
    | next => exact False.elim hq'
    | brk => exact False.elim hq'
    | cont => exact False.elim hq'
/-- o.f, o an own error that keeps fields -/
def tXfV (K : PySem.W.Frag) (n : Str) (te : TE) : TE := fun σ H Q => te σ H fun y H1 => ∃ (a C dd : Addr) (fs : List (Str × V)) (v : V), y = .ref a ∧ XfC K C ∧ PySem.W.findIn K (.ref C) n = some none ∧ H1 a = some (exo a C (some dd)) ∧ H1 dd = some (exd dd fs) ∧ fs.lookup n = some v ∧ Q v H1
theorem pe_xfV {te : TE} {n : Str} (he : PE X e te) (hb : attributeBase e n X.env (eval e X.env) = eval e X.env := by rfl) : PE X (.Attribute e n pos) (tXfV X.K n te) := by
  refine ⟨fun pins s σ H Q I h => ?_⟩
  refine attr_of hb (thn (he.run pins s σ H _ I h) fun u s1 hh => ?_)
  obtain ⟨y, H1, I1, ry, a, C, dd, fs, v, ey, T, hno, ea, ed, l, q⟩ := hh
  subst ey
  obtain rfl : u = Value.ref a := ry
  obtain ⟨t1, ha⟩ := exo_at I1.hok ea
  obtain ⟨mA, hns, hr⟩ := exd_at I1.hok ed
  obtain ⟨od, ho, hl⟩ := lookIn_ns hns
  obtain ⟨u, hu, ru⟩ := RelO.some_of (v := v) (o := mA n) (by rw [← l]; exact hr n)
  have J : PySem.W.InstAt s1.heap a _ C (some od) := ⟨ha, rfl, rfl, ho⟩
  exact HandSPX.exc_get I1.kIn J T.ga T.gg T.exC (PySem.W.findObj_own T.hdC hno rfl (by rw [hl, hu])) (handed_of ru) ⟨v, H1, I1.tok _, ru, q⟩
/-- isinstance(o, T), o an own error with or without fields -/
def rIsXV (K : PySem.W.Frag) : List V → Hp → VK → Prop := fun xs H Q => ∃ (a C : Addr) (d : Option Addr) (c : V) (cv : Value) (b : Bool), xs = [.ref a, c] ∧ H a = some (exo a C d) ∧ (∀ dd, d = some dd → ∃ fs, H dd = some (exd dd fs)) ∧ ExcC K C ∧ (PySem.W.clsIn K C).isSome = true ∧ (∀ u, RelV c u → u = cv) ∧ PySem.W.kitOne K (.ref C) cv = some b ∧ Q (.bl b) H
theorem call_isXV : CallR X (.builtin "isinstance") (rIsXV X.K) := by
  intro pins s σ H xs us Q I r h
  obtain ⟨a, C, d, c, cv, b, rfl, ea, ed, T, hci, hcv, hk, q⟩ := h
  cases r with
  | cons rx r2 =>
    cases r2 with
    | cons rc r3 =>
      cases r3
      cases rx
      cases hcv _ rc
      obtain ⟨t1, ha⟩ := exo_at I.hok ea
      have J : ∃ od, PySem.W.InstAt s.heap a ({ cls := .ref C, dict := d, data := .fields #[.ref t1, .none, .none, .none, .bool false, .none] } : Obj) C od := by
        cases d with
        | none => exact ⟨none, ha, rfl, rfl, True.intro⟩
        | some dd =>
          obtain ⟨fs, hd⟩ := ed dd rfl
          obtain ⟨mA, hns, hr⟩ := exd_at I.hok hd
          obtain ⟨od, ho, hl⟩ := lookIn_ns hns
          exact ⟨some od, ha, rfl, rfl, ho⟩
      obtain ⟨od, J⟩ := J
      refine PySem.W.kia_one (PySem.W.kitx_exc (x := a) (od := od) hci T.hg T.hk T.hs T.ha T.hn T.ht T.hm) I.kIn J hk (fun z => by cases z) fun tk => ?_
      exact ⟨.bl b, H, I.kept fun _ _ e => e, rfl, q⟩
end
end Ow
end
section
set_option maxHeartbeats 4000000
/-! repr of data with dicts, where the table of modules is known to stand. -/
namespace Ow
open PySem PySem.Spec PyProof.Rows L2 StX
def keyD : Key → PyData
  | .inl i => .int i
  | .inr x => .str x
mutual
inductive Dq (K : PySem.W.Frag) (H : Hp) : V → PyData → Prop
  | non : Dq K H .non .none
  | bl (b : Bool) : Dq K H (.bl b) (.bool b)
  | int (i : Int) : Dq K H (.int i) (.int i)
  | str (x : Str) : Dq K H (.str x) (.str x)
  | lst {a : Addr} {xs : List V} {ds : List PyData} : SqL K H a xs → DqAll K H xs ds → Dq K H (.ref a) (.list ds)
  | tup {a : Addr} {xs : List V} {ds : List PyData} : SqT K H a xs → DqAll K H xs ds → Dq K H (.ref a) (.tuple ds)
  | dic {a : Addr} {kvs : List (Key × V)} {ds : List (PyData × PyData)} : H a = some (.dK kvs) → DqPs K H kvs ds → Dq K H (.ref a) (.dict ds)
inductive DqAll (K : PySem.W.Frag) (H : Hp) : List V → List PyData → Prop
  | nil : DqAll K H [] []
  | cons {v : V} {vs : List V} {d : PyData} {ds : List PyData} : Dq K H v d → DqAll K H vs ds → DqAll K H (v :: vs) (d :: ds)
inductive DqPs (K : PySem.W.Frag) (H : Hp) : List (Key × V) → List (PyData × PyData) → Prop
  | nil : DqPs K H [] []
  | cons {k : Key} {v : V} {vs : List (Key × V)} {d : PyData} {ds : List (PyData × PyData)} : Dq K H v d → DqPs K H vs ds → DqPs K H ((k, v) :: vs) ((keyD k, d) :: ds)
end
/-- the table of modules stands in the base -/
def SysB (base : Heap) : Prop := ∃ m, base.Ns sysModules m
section
variable {X : Cx} {pins : List (Addr × Obj)} {σ : L2.St} {H : Hp} {s : Shared}
theorem SysB.lst {a : Addr} {its : Array Value} {n : Nat} {o : Obj} (S : SysB X.base) (I : Inv X pins σ H s) (h : s.heap.get? a = some o) (hd : o.data = .seq its n) : sysModules ≠ a := fun e => by
  obtain ⟨m, ob, es, ep, e1, e2, _⟩ := S
  have z := (I.env0.bs _ _ e1).1
  rw [e, h] at z
  cases z
  rw [hd] at e2
  cases e2
theorem key_reads {h : Heap} {k : Key} {v : Value} (e : keyIs k v = true) : Reads h v (keyD k) [] := by
  rcases keyIs_shape e with ⟨i, t, rfl, rfl⟩ | ⟨x, t, rfl, rfl⟩
  · exact Reads.int i t
  · exact Reads.str x t
mutual
theorem Dq.reads (I : Inv X pins σ H s) : ∀ (d : PyData) (v : V) (u : Value), Dq X.K H v d → RelV v u → ∃ as, Reads s.heap u d as ∧ (SysB X.base → sysModules ∉ as)
  | .none, _, _, h, r => by
    cases h
    cases r
    exact ⟨_, Reads.none, fun _ => List.not_mem_nil⟩
  | .bool b, _, _, h, r => by
    cases h
    cases r
    exact ⟨_, Reads.bool b, fun _ => List.not_mem_nil⟩
  | .int i, _, _, h, r => by
    cases h
    obtain ⟨t, rfl⟩ := r
    exact ⟨_, Reads.int i t, fun _ => List.not_mem_nil⟩
  | .str x, _, _, h, r => by
    cases h
    obtain ⟨t, rfl⟩ := r
    exact ⟨_, Reads.str x t, fun _ => List.not_mem_nil⟩
  | .list ds, _, _, h, r => by
    cases h with
    | lst hs ha =>
      cases r
      obtain ⟨its, rv, ⟨o, n, ho, hc, _, hd⟩, _⟩ := I.list hs
      obtain ⟨as, hr, hq⟩ := Dq.readsAll I ds _ its ha rv
      exact ⟨_, Reads.list ho hc hd hr, fun S z => by
        rcases List.mem_cons.mp z with e | e
        · exact S.lst I ho hd e
        · exact hq S e⟩
  | .tuple ds, _, _, h, r => by
    cases h with
    | tup hs ha =>
      cases r
      obtain ⟨its, rv, ⟨o, ho, hc, n, hd⟩, _⟩ := I.tuple hs
      obtain ⟨as, hr, hq⟩ := Dq.readsAll I ds _ its ha rv
      exact ⟨_, Reads.tuple ho hc hd hr, hq⟩
  | .dict ds, _, _, h, r => by
    cases h with
    | dic hs ha =>
      cases r
      obtain ⟨hlen, ns, vs, rv, o, es, ep, ho, hc, hd, _, hp, _⟩ := I.hok _ _ hs
      obtain ⟨as, bs, h1, h2, h3⟩ := Dq.readsPs I ds _ vs es.toList ha rv hp
      refine ⟨_, Reads.dict ho hc.1 hd h1 h2, fun S z => ?_⟩
      rcases List.mem_append.mp z with e | e
      · rcases List.mem_cons.mp e with e | e
        · rw [← e] at ns
          exact absurd ns (by decide)
        · exact (h3 S).1 e
      · exact (h3 S).2 e
theorem Dq.readsAll (I : Inv X pins σ H s) : ∀ (ds : List PyData) (vs : List V) (us : List Value), DqAll X.K H vs ds → Vals vs us → ∃ as, ReadsAll s.heap us ds as ∧ (SysB X.base → sysModules ∉ as)
  | [], _, _, h, r => by
    cases h
    cases r
    exact ⟨_, ReadsAll.nil, fun _ => List.not_mem_nil⟩
  | d :: ds, _, _, h, r => by
    cases h with
    | cons h1 h2 =>
      cases r with
      | cons r1 r2 =>
        obtain ⟨as, q1, s1⟩ := Dq.reads I d _ _ h1 r1
        obtain ⟨bs, q2, s2⟩ := Dq.readsAll I ds _ _ h2 r2
        exact ⟨_, ReadsAll.cons q1 q2, fun S z => (List.mem_append.mp z).elim (s1 S) (s2 S)⟩
theorem Dq.readsPs (I : Inv X pins σ H s) : ∀ (ds : List (PyData × PyData)) (kvs : List (Key × V)) (vs : List (Key × Value)) (es : List DictEntry), DqPs X.K H kvs ds → KV kvs vs → Pairs (mixKind X.prog X.w) es vs →
    ∃ as bs, ReadsAll s.heap (es.map (·.key)) (ds.map (·.1)) as ∧ ReadsAll s.heap (es.map (·.val)) (ds.map (·.2)) bs ∧ (SysB X.base → sysModules ∉ as ∧ sysModules ∉ bs)
  | [], _, _, _, h, r, p => by
    cases h
    cases r
    cases p
    exact ⟨_, _, ReadsAll.nil, ReadsAll.nil, fun _ => ⟨List.not_mem_nil, List.not_mem_nil⟩⟩
  | (kd, d) :: ds, _, _, _, h, r, p => by
    cases h with
    | cons h1 h2 =>
      cases r with
      | cons r1 r2 =>
        cases p with
        | cons p1 p2 p3 =>
          obtain ⟨e1, rv⟩ := r1
          obtain ⟨bs, q2, s2⟩ := Dq.reads I d _ _ h1 rv
          obtain ⟨as', bs', q3, q4, s3⟩ := Dq.readsPs I ds _ _ _ h2 r2 p3
          subst e1
          rw [← p2] at q2
          refine ⟨_, _, ReadsAll.cons (key_reads p1) q3, ReadsAll.cons q2 q4, fun S => ⟨?_, fun z => ?_⟩⟩
          · exact (s3 S).1
          · exact (List.mem_append.mp z).elim (s2 S) (s3 S).2
end
end
section
variable {X : Cx} {CX : CXT} {n : Nat} {sp : Sp} {E : XK}
/-- repr of data, dicts too: its text -/
def rReprQ (K : PySem.W.Frag) : List V → Hp → VK → Prop := fun xs H Q => ∃ (x : V) (d : PyData), xs = [x] ∧ Dq K H x d ∧ d.showable = true ∧ d.depth ≤ 8 ∧ d.shown.length ≤ sizeLine ∧ Q (.str d.shown) H
theorem call_reprQ (sb : SysB X.base) (gd : X.A.guards = some []) (hu : X.A.units + 64 < cLine) : CallR X (.builtin "repr") (rReprQ X.K) := by
  intro pins s σ H xs us Q I r h
  obtain ⟨x, d, rfl, hd, hs, hdp, hsz, q⟩ := h
  obtain ⟨u, rfl, ru⟩ := vals1 r
  have fin : ∀ (h' : Heap) (tk : Nat) (u : Tok), (∀ b o, s.heap.get? b = some o → h'.get? b = some o) → EP X pins σ Q (.str d.shown u) { s with heap := h', toks := tk } := fun h' tk u k => ⟨.str d.shown, H, I.kept (t' := tk) k, ⟨u, rfl⟩, q⟩
  obtain ⟨as, rd, ns⟩ := Dq.reads I _ _ _ hd ru
  cases hd with
  | non => cases ru; exact PySem.P.repr_of_none (fin s.heap _ _ fun _ _ e => e)
  | bl b => cases ru; exact PySem.P.repr_of_bool (by cases b <;> exact fin s.heap _ _ fun _ _ e => e)
  | int i =>
    obtain ⟨t, rfl⟩ := ru
    have hi : i.natAbs.log2 < 1920 := of_decide_eq_true hs
    exact PySem.P.repr_of_int hi (fin s.heap _ _ fun _ _ e => e)
  | str z => obtain ⟨t, rfl⟩ := ru; exact PySem.P.repr_of_str (fin s.heap _ _ fun _ _ e => e) hsz
  | lst hq ha =>
    cases ru
    exact repr_of_reads' rd hs (fun _ => ns sb) gd (by omega) (fun _ _ e => e) (fun h' u tk k => fin h' tk u k) hsz
  | tup hq ha =>
    cases ru
    exact repr_of_reads' rd hs (fun _ => ns sb) gd (by omega) (fun _ _ e => e) (fun h' u tk k => fin h' tk u k) hsz
  | dic hq ha =>
    cases ru
    exact repr_of_reads' rd hs (fun _ => ns sb) gd (by omega) (fun _ _ e => e) (fun h' u tk k => fin h' tk u k) hsz
end
end Ow
end
section
set_option maxHeartbeats 4000000
namespace Ow
open PySem PySem.Spec PyProof.Rows L2 StX
/-! ### the end of a law whose def wants to know that nothing is being shown -/
section
variable {P : Program} {w : World} {K : PySem.W.Frag} {mg mb : Str → Option Value} {k : Nat} {fa a : Addr} {sp : Sp} {s1 : Shared} {vs : List Value} {ns : List Int}
/-- the call, from one abstract heap that tracks the script alone, or nothing -/
theorem end_fromB (KX : K.In s1.heap) (hns : s1.heap.Ns mainGlobals mg) (hb : s1.heap.Ns builtinsNs mb) (hbb : ∀ x : Str, x ≠ "__name__" → mb x = bootBuiltins x) (hlim : s1.heap.NoLimit) (hsy : SysB s1.heap) (hg : s1.gens = #[]) (hr : Room k callerA)
    (F : ∀ base : Heap, K.In base → base.Ns mainGlobals mg → SysB base → FnG P w K mg base CX0 k fa sp) {H : Hp} (hO : Only H) (hok : HOk P w H s1.heap) (dom : ∀ b u, H b = some u → K.lookup b = none ∧ ∃ o items n, s1.heap.get? b = some o ∧ o.data = .seq items n)
    (hsp : sp [.ref a] H (fun v _ => v = .bl true) fun _ _ _ => False) :
    codeAny (model P w) callerA (.call (.ref fa) ⟨[.ref a], []⟩) (fun r s' => r = .ok (.ret (.bool true)) ∧ OldK s1.heap s'.heap ∧ s'.os = s1.os ∧ AllBare s'.gens) s1 := by
  let base := hidT s1.heap H
  have dicts : ∀ {b : Addr} {o : Obj} {es : Array DictEntry} {ep : Nat}, s1.heap.get? b = some o → o.data = .dict es ep → base.get? b = some o := fun {b o es ep} e d => by
    refine hidT_get e ?_
    cases q : H b with
    | none => rfl
    | some u =>
      obtain ⟨_, o2, items, n, e2, d2⟩ := dom b u q
      rw [e2] at e
      cases e
      rw [d2] at d
      cases d
  have names : ∀ {b : Addr} {m : Str → Option Value}, s1.heap.Ns b m → base.Ns b m := fun z => by
    obtain ⟨o, es, ep, e, d, r⟩ := z
    exact ⟨o, es, ep, dicts e d, d, r⟩
  have hK : K.In base := fun b o e => by
    refine hidT_get (KX b o e) ?_
    cases q : H b with
    | none => rfl
    | some u =>
      have z := (dom b u q).1
      rw [e] at z
      cases z
  have lim : base.NoLimit := by
    obtain ⟨m, h1, h2⟩ := hlim
    exact ⟨m, names h1, h2⟩
  have e0 : Env0 P w K mg base callerA [] s1 H :=
    { frames := rfl, mod := ⟨hK, names hns, ⟨mb, names hb, hbb⟩, lim⟩, bs := fun b o e => of_hidT e, bsz := Nat.le_of_eq (hidT_size _ _), funs := trivial, frf := fun b hb => (List.not_mem_nil hb).elim, hok := hok, bare := .of_eq hg }
  refine codeAny_mono (F base hK (names hns) (let ⟨m, z⟩ := hsy; ⟨m, names z⟩) callerA [] s1 H [.ref a] [.ref a] _ _ hr rfl e0 (.cons rfl .nil) hsp) fun r s' h => ?_
  cases r with
  | error e => exact False.elim h
  | ok fl =>
    cases fl with
    | ret u =>
      obtain ⟨v, H2, os, bare, un, ok2, rv, q⟩ := h
      subst q
      cases rv
      refine ⟨rfl, OldK.of_keep fun b o e => ?_, os, bare⟩
      cases q : H b with
      | none => exact un.keep b o e q (fun z => List.not_mem_nil z) (fun z => List.not_mem_nil z)
      | some u =>
        rcases hO b with z | ⟨ob, xs, z⟩
        · rw [q] at z
          cases z
        · have e1 := (hok b _ z).1
          have e2 := (ok2 b _ (un.frzs b ob _ z)).1
          rw [e] at e1
          cases e1
          exact e2
    | next => exact False.elim h
    | brk => exact False.elim h
    | cont => exact False.elim h
theorem end_callGB (KX : K.In s1.heap) (hns : s1.heap.Ns mainGlobals mg) (hb : s1.heap.Ns builtinsNs mb) (hbb : ∀ x : Str, x ≠ "__name__" → mb x = bootBuiltins x) (hlim : s1.heap.NoLimit) (hsy : SysB s1.heap) (hg : s1.gens = #[]) (hr : Room k callerA)
    (ha : s1.heap.get? a = some { cls := .type "list", data := .seq vs.toArray }) (hi : IntsAre vs ns) (hl : ns.length ≤ sizeLine) (F : ∀ base : Heap, K.In base → base.Ns mainGlobals mg → SysB base → FnG P w K mg base CX0 k fa sp)
    (hsp : ∀ H : Hp, Only H → SqL K H a (ns.map V.int) → sp [.ref a] H (fun v _ => v = .bl true) fun _ _ _ => False) :
    codeAny (model P w) callerA (.call (.ref fa) ⟨[.ref a], []⟩) (fun r s' => r = .ok (.ret (.bool true)) ∧ OldK s1.heap s'.heap ∧ s'.os = s1.os ∧ AllBare s'.gens) s1 := by
  have rv := vals_ints hi
  have hl2 : (ns.map V.int).length ≤ sizeLine := by rw [List.length_map]; exact hl
  cases hk : K.lookup a with
  | some o =>
    have e := KX a o hk
    rw [ha] at e
    cases e
    refine end_fromB KX hns hb hbb hlim hsy hg hr F (H := fun _ => none) (fun _ => .inl rfl) (fun b u z => by cases z) (fun b u z => by cases z) (hsp _ (fun _ => .inl rfl) ?_)
    exact .inr ⟨_, vs.toArray, _, hk, rfl, rfl, rfl, by rw [List.size_toArray, hi.length]; exact hl, by simpa using rv⟩
  | none =>
    let o : Obj := { cls := .type "list", data := .seq vs.toArray }
    let H : Hp := fun b => if b = a then some (.frz o (.lst (ns.map V.int))) else none
    have H1 : H a = some (.frz o (.lst (ns.map V.int))) := if_pos rfl
    have H0 : ∀ b u, H b = some u → b = a ∧ u = .frz o (.lst (ns.map V.int)) := fun b u z => by
      by_cases e : b = a
      · subst e
        rw [H1] at z
        cases z
        exact ⟨rfl, rfl⟩
      · have z0 : H b = none := if_neg e
        rw [z0] at z
        cases z
    have hO : Only H := fun b => by
      by_cases e : b = a
      · subst e; exact .inr ⟨_, _, H1⟩
      · exact .inl (if_neg e)
    refine end_fromB KX hns hb hbb hlim hsy hg hr F (H := H) hO (fun b u z => ?_) (fun b u z => ?_) (hsp _ hO (.inl (.inr ⟨_, H1⟩)))
    · obtain ⟨rfl, rfl⟩ := H0 b u z
      exact ⟨ha, hl2, vs, _, rv, ha⟩
    · obtain ⟨rfl, rfl⟩ := H0 b u z
      exact ⟨hk, _, _, _, ha, rfl⟩
end
theorem walk_ofGB {l : PySem.W.OpenLaw} {n k : Nat} {q : Program} {loose : List Str} {XP : (Str → Option Value) → Heap → Prop} {YP : World → Heap → Prop} {d : DefRec} {K : Params → PySem.W.Frag} {sp : World → Sp}
    (hi : importsNone q = true) (hn : l.most = some n) (hn2 : n ≤ sizeLine) (hdf : d.params.defaults = []) (hr : Room k callerA) (hY : ∀ (w : World) (h : Heap), YP w h → (K w.params).In h)
    (F : ∀ (w : World) (mg : Str → Option Value) (fa : Addr) (h : Heap), (K w.params).In h → h.Ns mainGlobals mg → mg d.name = some (.ref fa) →
      ∀ base : Heap, (K w.params).In base → base.Ns mainGlobals mg → SysB base → FnG l.prog w (K w.params) mg base CX0 k fa (sp w))
    (hsp : ∀ (w : World) (H : Hp) (a : Addr) (ns : List Int), ns.length ≤ n → Only H → SqL (K w.params) H a (ns.map V.int) → sp w [.ref a] H (fun v _ => v = .bl true) fun _ _ _ => False) :
    PySem.W.WalkO q loose XP YP l.row.toRowW d [] (fun f vs => PySem.call f vs) := by
  refine Att.attach_call hn hdf fun w s0 s1 mg mb fa o pm cd doc a vs ns G Y ho hd hcd hmg hobj hints hlen hg => ?_
  have KX := hY w _ Y
  exact end_callGB KX G.T.g G.T.b G.T.builtins G.T.nolimit (let ⟨m, z, _⟩ := (G.T.seer hi).mods; ⟨m, z⟩) hg hr hobj hints (Nat.le_trans hlen hn2) (F w mg fa _ KX G.T.g hmg) fun H hO hS => hsp w H a ns hlen hO hS
end Ow
end
section
set_option maxHeartbeats 4000000
/-! Own errors as values: what holds of one, classes told by the order of their bases, readings of the makings. -/
namespace Ow
open PySem PySem.Spec PyProof.Rows L2 StX
/-- the class's order of bases: itself, the package's base, ValueError, .. -/
def mroE (K : PySem.W.Frag) (C B : Addr) : Bool := match PySem.W.clsIn K C with
  | some cd => cd.mro == [.ref C, .ref B, .type "ValueError", .type "Exception", .type "BaseException", .type "object"]
  | none => false
theorem mroE_mk {K : PySem.W.Frag} {C B : Addr} {cd : PySem.ClassData} (h : PySem.W.clsIn K C = some cd) (m : (cd.mro == [.ref C, .ref B, .type "ValueError", .type "Exception", .type "BaseException", .type "object"]) = true) : mroE K C B = true := by
  unfold mroE
  rw [h]
  exact m
theorem mroE_sub {K : PySem.W.Frag} {C B : Addr} (h : mroE K C B = true) (t : Value) : PySem.W.subIn K (.ref C) t = some (([.ref C, .ref B, .type "ValueError", .type "Exception", .type "BaseException", .type "object"] : List Value).contains t) := by
  unfold mroE at h
  show PySem.W.mroIn K C t = _
  unfold PySem.W.mroIn
  cases e : PySem.W.clsIn K C with
  | none => rw [e] at h; cases h
  | some cd =>
    rw [e] at h
    have q := beq_iff_eq.mp h
    show (if cd.mro.isEmpty then none else some (cd.mro.contains t)) = _
    rw [q]
    rfl
theorem mroE_some {K : PySem.W.Frag} {C B : Addr} (h : mroE K C B = true) : (PySem.W.clsIn K C).isSome = true := by
  unfold mroE at h
  cases e : PySem.W.clsIn K C with
  | none => rw [e] at h; cases h
  | some cd => rfl
/-- isinstance of an own error: its class, the base, a class beside it, ValueError -/
theorem kitE {K : PySem.W.Frag} {C B D : Addr} (h : mroE K C B = true) (i : (PySem.W.clsIn K D).isSome = true) (t : PySem.W.typeIn K (.ref D) = Option.some (.type "type")) (ne : D ≠ C) (nb : D ≠ B) : PySem.W.kitOne K (.ref C) (.ref D) = Option.some false := by
  refine kit_err i t ?_ (beq_eq_false_iff_ne.mpr fun z => ne (by cases z; rfl))
  rw [mroE_sub h]
  simp [ne, nb]
theorem kitEB {K : PySem.W.Frag} {C B : Addr} (h : mroE K C B = true) (i : (PySem.W.clsIn K B).isSome = true) (t : PySem.W.typeIn K (.ref B) = Option.some (.type "type")) (ne : C ≠ B) : PySem.W.kitOne K (.ref C) (.ref B) = Option.some true := by
  refine kit_err i t ?_ (beq_eq_false_iff_ne.mpr fun z => ne (by cases z; rfl))
  rw [mroE_sub h]
  simp
theorem kitEV {K : PySem.W.Frag} {C B : Addr} (h : mroE K C B = true) : PySem.W.kitOne K (.ref C) (.type "ValueError") = Option.some true := by
  unfold PySem.W.kitOne
  rw [if_neg (by simp)]
  show PySem.W.subIn K (.ref C) (.type "ValueError") = _
  rw [mroE_sub h]
  simp
/-- an own error with these fields -/
def EO (H : Hp) (e C : Addr) (fs : List (Str × V)) : Prop := ∃ d, H e = some (exo e C (some d)) ∧ H d = some (exd d fs)
theorem EO.same {H H' : Hp} {e C : Addr} {fs : List (Str × V)} (x : EO H e C fs) (s : ∀ b o, H b = some o → H' b = some o) : EO H' e C fs := by
  obtain ⟨d, h1, h2⟩ := x
  exact ⟨d, s _ _ h1, s _ _ h2⟩
theorem made_keeps {H : Hp} {e d : Addr} {C : Addr} {fs : List (Str × V)} (ha : H e = none) (hd : H d = none) (ne : d ≠ e) :
    (∀ b o, H b = some o → upd (upd (upd H e (exo e C none)) d (exd d fs)) e (exo e C (some d)) b = some o) ∧ EO (upd (upd (upd H e (exo e C none)) d (exd d fs)) e (exo e C (some d))) e C fs := by
  refine ⟨fun b o q => ?_, d, upd_same, by rw [upd_ne ne]; exact upd_same⟩
  have n1 : b ≠ e := ne_of_none q ha
  have n2 : b ≠ d := ne_of_none q hd
  rw [upd_ne n1, upd_ne n2, upd_ne n1]
  exact q
section
variable {H : Hp} {C : Addr} {n m : Str} {v u : V} {Q : VK}
theorem oex1 (k : ∀ (e : Addr) (H' : Hp), (∀ b o, H b = some o → H' b = some o) → EO H' e C [(n, v)] → Q (.ref e) H') :
    [v].length ≤ 1000 ∧ ∀ a, H a = none → spErr1 C n (.ref a :: [v]) (upd H a (exo a C none)) (fun z H2 => z = .non ∧ Q (.ref a) H2) (fun _ _ _ => False) := by
  refine ⟨Nat.le_of_ble_eq_true rfl, fun a ha => ⟨a, v, rfl, upd_same, fun d hd ne => ⟨rfl, ?_⟩⟩⟩
  rw [upd_ne ne] at hd
  exact k a _ (made_keeps ha hd ne).1 (made_keeps ha hd ne).2
theorem oex2 (k : ∀ (e : Addr) (H' : Hp), (∀ b o, H b = some o → H' b = some o) → EO H' e C [(m, u), (n, v)] → Q (.ref e) H') :
    [v, u].length ≤ 1000 ∧ ∀ a, H a = none → spErr2 C n m (.ref a :: [v, u]) (upd H a (exo a C none)) (fun z H2 => z = .non ∧ Q (.ref a) H2) (fun _ _ _ => False) := by
  refine ⟨Nat.le_of_ble_eq_true rfl, fun a ha => ⟨a, v, u, rfl, upd_same, fun d hd ne => ⟨rfl, ?_⟩⟩⟩
  rw [upd_ne ne] at hd
  exact k a _ (made_keeps ha hd ne).1 (made_keeps ha hd ne).2
/-- by keywords, the other way round -/
theorem oexK2 {gV : List V → List V → List V} (hg : ∀ a, gV [V.ref a] [u, v] = [.ref a, v, u]) (k : ∀ (e : Addr) (H' : Hp), (∀ b o, H b = some o → H' b = some o) → EO H' e C [(m, u), (n, v)] → Q (.ref e) H') :
    [u, v].length = 2 ∧ ∀ a, H a = none → spErr2 C n m (gV [.ref a] [u, v]) (upd H a (exo a C none)) (fun z H2 => z = .non ∧ Q (.ref a) H2) (fun _ _ _ => False) := by
  refine ⟨rfl, fun a ha => ?_⟩
  rw [hg]
  exact (oex2 k).2 a ha
end
end Ow
end
section
set_option maxHeartbeats 4000000
/-! An own error without a def of its own, made of nothing, as a value. -/
namespace Ow
open PySem PySem.Spec PyProof.Rows L2 StX
theorem pe_exc0 {X : Cx} {C : Addr} {bmB : List Value} {B newId initId : String} {x : Str} {p pos : Pos} (F : ExcBaseFacts B newId initId bmB) (q : PySem.W.excIn X.K C bmB newId = true) (gC : X.mg x = some (.ref C)) (kC : PySem.W.keepIn X.K (.ref C) = true) (hg : Gl X x)
    (hdb : (x == ("__debug__" : Str)) = false := by decide) : PE X (.Call (.Name x p) [] [] pos) (fun σ H Q => ∀ a, H a = none → Q (.ref a) (upd H a (exo a C none))) := by
  refine ⟨fun pins s σ H Q I h => ?_⟩
  refine wpAny_Call_Name_kw (ld_glob I hg gC ?_ hdb)
  refine PySem.W.callWith_K0 I.kIn kC ?_
  obtain ⟨bm, N, nm, qn, bs, hdct, sn, sub, ab, col, dd, k0, k1, k2, k3, k5, mN, hC, hN, hni, T⟩ := exc_obj I.kIn q
  obtain ⟨hp, g, dr, tk, os⟩ := s
  refine wpAny_call_exc_subT F T hC hN hni (fun h' a hm => ?_) (by show 0 ≤ sizeLine; exact Nat.zero_le _)
  have hn : H a = none := I.hok.gone hm.new
  obtain ⟨t, ht, _, _⟩ := hm.there
  exact ⟨.ref a, upd H a (exo a C none), I.laidN hm.keeps hm.new hn (exo_ok ht), rfl, h a hn⟩
end Ow
end
section
set_option maxHeartbeats 4000000
/-! New objects and comprehensions said once more, so that what is wanted behind them can be read off (the readings unfolded by simp). -/
namespace Ow
open PySem PySem.Spec PyProof.Rows L2 StX
/-- p is a new object o, all else stays -/
structure Fresh (H H' : Hp) (p : Addr) (o : HO) : Prop where
  same : Same H H'
  at_ : H' p = some o
  new : H p = none
theorem Fresh.get {H H' : Hp} {p : Addr} {o : HO} (f : Fresh H H' p o) {b : Addr} {u : HO} (h : H b = some u) : H' b = some u := f.same _ _ h
theorem Fresh.ne {H H' : Hp} {p : Addr} {o : HO} (f : Fresh H H' p o) {b : Addr} {u : HO} (h : H b = some u) : b ≠ p := fun e => by
  rw [e, f.new] at h
  cases h
def kN (o : HO) (Q : VK) : Hp → Prop := fun H => ∀ p, H p = none → Q (.ref p) (upd H p o)
def kNew (f : List V → HO) (Q : VK) : List V → Hp → Prop := fun xs H => xs.length ≤ sizeLine ∧ kN (f xs) Q H
theorem fresh_upd {H : Hp} {p : Addr} {o : HO} (h : H p = none) : Fresh H (upd H p o) p o := ⟨fun b u e => by rw [upd_ne (ne_of_none e h)]; exact e, upd_same, h⟩
theorem kN.mk {o : HO} {Q : VK} {H : Hp} (k : ∀ p H', Fresh H H' p o → Q (.ref p) H') : kN o Q H := fun p h => k p _ (fresh_upd h)
theorem kNew.mk {f : List V → HO} {Q : VK} {xs : List V} {H : Hp} (hs : xs.length ≤ sizeLine) (k : ∀ p H', Fresh H H' p (f xs) → Q (.ref p) H') : kNew f Q xs H := ⟨hs, kN.mk k⟩
theorem tLst_k (t : TA) : tLst t = fun σ H Q => t σ H (kNew .lst Q) := rfl
theorem tTup_k (t : TA) : tTup t = fun σ H Q => t σ H (kNew .tup Q) := rfl
theorem rNewStrs_k (ys : List Str) : rNewStrs ys = fun H Q => kN (.lst (ys.map V.str)) Q H := rfl
theorem rCat_k : rCat = fun x y H Q => ∃ l b xs zs, x = .ref l ∧ y = .ref b ∧ H l = some (.lst xs) ∧ H b = some (.lst zs) ∧ xs.length + zs.length ≤ sizeLine ∧ kN (.lst (xs ++ zs)) Q H := rfl
theorem rRep_k : rRep = fun x y H Q => ∃ l k xs, x = .ref l ∧ y = .int k ∧ H l = some (.lst xs) ∧ -(2 ^ 63) ≤ k ∧ k < 2 ^ 63 ∧ xs.length * k.toNat ≤ sizeLine ∧ kN (.lst (List.replicate k.toNat xs).flatten) Q H := rfl
theorem rSlL_k (K : PySem.W.Frag) : rSlL K = fun x lo hi H Q => ∃ a xs, x = .ref a ∧ SqL K H a xs ∧ kN (.lst (cutV xs lo hi)) Q H := rfl
/-- a list is changed -/
def kPut (l : Addr) (o : HO) (Q : VK) : Hp → Prop := fun H => Q .non (upd H l o)
structure Put (H H' : Hp) (l : Addr) (o : HO) : Prop where
  at_ : H' l = some o
  else_ : ∀ b, b ≠ l → H' b = H b
theorem kPut.mk {l : Addr} {o : HO} {Q : VK} {H : Hp} (k : ∀ H', Put H H' l o → Q .non H') : kPut l o Q H := k _ ⟨upd_same, fun b n => upd_ne n⟩
theorem Put.get {H H' : Hp} {l : Addr} {o : HO} (f : Put H H' l o) {b : Addr} {u : HO} (n : b ≠ l) (h : H b = some u) : H' b = some u := (f.else_ b n).trans h
theorem rAppend_k : rAppend = fun x vs H Q => ∃ l xs y, x = .ref l ∧ vs = [y] ∧ H l = some (.lst xs) ∧ xs.length < sizeLine ∧ kPut l (.lst (xs ++ [y])) Q H := rfl
section
variable {X : Cx}
def rListOf (K : PySem.W.Frag) : List V → Hp → VK → Prop := fun xs H Q => ∃ p ys, xs = [.ref p] ∧ (SqL K H p ys ∨ SqT K H p ys) ∧ kN (.lst ys) Q H
theorem call_listK : CallR X (.type "list") (rListOf X.K) := call_list_of
def rTupOf (K : PySem.W.Frag) : List V → Hp → VK → Prop := fun xs H Q => ∃ p ys, xs = [.ref p] ∧ ((SqL K H p ys ∧ kN (.tup ys) Q H) ∨ (SqT K H p ys ∧ Q (.ref p) H))
theorem call_tupleK : CallR X (.type "tuple") (rTupOf X.K) := call_tuple_of
def rLenSeq (K : PySem.W.Frag) : List V → Hp → VK → Prop := fun xs H Q => ∃ p ys, xs = [.ref p] ∧ (SqL K H p ys ∨ SqT K H p ys) ∧ Q (.int ys.length) H
theorem call_lenK : CallR X (.builtin "len") (rLenSeq X.K) := call_len_seq
end
/-! ### comprehensions whose elements only make new objects -/
def kLc (J : It) (g : TG) (tt : TT) (te : TE) (vs : List Nat) (σ : L2.St) (Q : VK) (H1 : Hp) : Prop := ∀ D, H1 D = none → ∃ W : Nat → Nat → Hp → Prop, (∃ m, W 0 m (upd H1 D (.lst []))) ∧ ∀ i m H, W i m H →
  (J.stop i H ∧ Q (.ref D) H) ∨ (J.go i H ∧ ∃ Nx : Hp → Prop, (∀ H', Nx H' → ∃ m', m' < m ∧ W (i + 1) m' H') ∧ ∀ x H', J.yld i H x H' → g x (wipe σ vs) H' fun σ2 H2 => wipe σ2 vs = wipe σ vs ∧ tt σ2 H2 fun b H3 =>
    if b = true then te σ2 H3 fun y H4 => ∃ acc, H4 D = some (.lst acc) ∧ acc.length < sizeLine ∧ Nx (upd H4 D (.lst (acc ++ [y]))) else Nx H3)
theorem tLc_k (wi : TI) (g : TG) (tt : TT) (te : TE) (vs : List Nat) : tLc wi g tt te vs = fun σ H Q => wi σ H fun J H1 => kLc J g tt te vs σ Q H1 := rfl
/-- within the comprehension: H1 as it was ahead of it, the new list at D -/
structure LcIn (H1 H : Hp) (D : Addr) (acc : List V) : Prop where
  same : Same H1 H
  at_ : H D = some (.lst acc)
  new : H1 D = none
def kApp (D : Addr) (N : Hp → Prop) : VK := fun y H4 => ∃ acc, H4 D = some (.lst acc) ∧ acc.length < sizeLine ∧ N (upd H4 D (.lst (acc ++ [y])))
theorem kApp.mk {H1 H H4 : Hp} {D : Addr} {acc acc' : List V} {y : V} (c : LcIn H1 H D acc) (s : Same H H4) (hl : acc.length < sizeLine) (h : acc ++ [y] = acc') : kApp D (fun H' => LcIn H1 H' D acc') y H4 := by
  refine ⟨acc, s _ _ c.at_, hl, ⟨fun b u e => ?_, by rw [upd_same, h], c.new⟩⟩
  rw [upd_ne (ne_of_none e c.new)]
  exact s _ _ (c.same _ _ e)
theorem kLc.all {J : It} {n : Nat} {G : Hp → Prop} {Y : Nat → Hp → V → Hp → Prop} (w : Walk J n G Y) {g : TG} {tt : TT} {te : TE} {vs : List Nat} {σ : L2.St} {Q : VK} {H1 : Hp} (outs : Nat → List V) (h0 : outs 0 = []) (hG : ∀ H, Same H1 H → G H)
    (hs : ∀ D i x H H', i < n → LcIn H1 H D (outs i) → Y i H x H' → g x (wipe σ vs) H' fun σ2 H2 => wipe σ2 vs = wipe σ vs ∧ tt σ2 H2 fun b H3 => if b = true then te σ2 H3 (kApp D fun H' => LcIn H1 H' D (outs (i + 1))) else LcIn H1 H3 D (outs (i + 1)))
    (hd : ∀ D H', Fresh H1 H' D (.lst (outs n)) → Q (.ref D) H') : kLc J g tt te vs σ Q H1 := fun D hD =>
  lc_it w (fun i H => LcIn H1 H D (outs i)) ⟨(fresh_upd hD).same, by rw [h0]; exact upd_same, hD⟩ (fun i H _ c => hG H c.same) (fun i x H H' hi c y => hs D i x H H' hi c y) fun H c => hd D H ⟨c.same, c.at_, c.new⟩
theorem kLc.map {J : It} {n : Nat} {G : Hp → Prop} {Y : Nat → Hp → V → Hp → Prop} (w : Walk J n G Y) {g : TG} {tt : TT} {te : TE} {vs : List Nat} {σ : L2.St} {Q : VK} {H1 : Hp} (out : List V) (hn : out.length = n) (hG : ∀ H, Same H1 H → G H)
    (hs : ∀ D i x H H', i < n → LcIn H1 H D (out.take i) → Y i H x H' → g x (wipe σ vs) H' fun σ2 H2 => wipe σ2 vs = wipe σ vs ∧ tt σ2 H2 fun b H3 => if b = true then te σ2 H3 (kApp D fun H' => LcIn H1 H' D (out.take (i + 1))) else LcIn H1 H3 D (out.take (i + 1)))
    (hd : ∀ D H', Fresh H1 H' D (.lst out) → Q (.ref D) H') : kLc J g tt te vs σ Q H1 :=
  kLc.all w (fun i => out.take i) (by simp) hG hs fun D H' f => hd D H' (by rw [← hn, List.take_length] at f; exact f)
theorem kApp.at {H1 H H4 : Hp} {D : Addr} {out : List V} {i : Nat} {y : V} (c : LcIn H1 H D (out.take i)) (s : Same H H4) (hl : out.length ≤ sizeLine) (h : out[i]? = some y) : kApp D (fun H' => LcIn H1 H' D (out.take (i + 1))) y H4 := by
  have hi : i < out.length := by
    by_cases q : i < out.length
    · exact q
    · rw [List.getElem?_eq_none (by omega)] at h
      cases h
  refine kApp.mk c s (by rw [List.length_take]; omega) ?_
  rw [List.take_add_one, h]
  rfl
def kFor (J : It) (g : TG) (tb : TS) : TS := fun D σ H => ∃ W : Nat → Nat → L2.St → Hp → Prop, (∃ m, W 0 m σ H) ∧ ∀ i m σ H, W i m σ H →
  (J.stop i H ∧ D.nx σ H) ∨ (J.go i H ∧ ∃ N : L2.St → Hp → Prop, (∀ σ' H', N σ' H' → ∃ m', m' < m ∧ W (i + 1) m' σ' H') ∧ ∀ x H', J.yld i H x H' → g x σ H' fun σ2 H2 => tb { D with nx := N, ct := N, bk := D.nx } σ2 H2)
theorem tFor_k (wi : TI) (g : TG) (tb : TS) : tFor wi g tb = fun D σ H => wi σ H fun J H1 => kFor J g tb D σ H1 := rfl
theorem kFor.it {J : It} {n : Nat} {G : Hp → Prop} {Y : Nat → Hp → V → Hp → Prop} (w : Walk J n G Y) {g : TG} {tb : TS} {D : Ends} {σ : L2.St} {H : Hp} (Pv : Nat → L2.St → Hp → Prop) (h0 : Pv 0 σ H) (hG : ∀ i σ H, i ≤ n → Pv i σ H → G H)
    (hs : ∀ i x σ H H', i < n → Pv i σ H → Y i H x H' → g x σ H' fun σ2 H2 => tb { D with nx := Pv (i + 1), ct := Pv (i + 1), bk := D.nx } σ2 H2) (hd : ∀ σ H, Pv n σ H → D.nx σ H) : kFor J g tb D σ H := for_it w Pv h0 hG hs hd
theorem Same.tup {K : PySem.W.Frag} {H H' : Hp} {a : Addr} {xs : List V} (e : Same H H') (h : SqT K H a xs) : SqT K H' a xs := by
  rcases h with (h | ⟨o, h⟩) | h
  · exact .inl (.inl (e _ _ h))
  · exact .inl (.inr ⟨o, e _ _ h⟩)
  · exact .inr h
/-! ### a new instance -/
def kMake (C : Addr) (sp : Sp) (E : XK) (Q : VK) : List V → Hp → Prop := fun vs H1 => ∀ x dx, H1 x = none → H1 dx = none → dx ≠ x → sp (.ref x :: vs) (upd (upd H1 dx (.own x)) x (.ins C dx [])) (fun v H2 => v = .non ∧ Q (.ref x) H2) E
theorem kMake.mk {C : Addr} {sp : Sp} {E : XK} {Q : VK} {vs : List V} {H : Hp} (k : ∀ x dx H1, Same H H1 → H x = none → H1 x = some (.ins C dx []) → (∀ o, Same H (upd H1 x o)) → sp (.ref x :: vs) H1 (fun v H2 => v = .non ∧ Q (.ref x) H2) E) : kMake C sp E Q vs H := fun x dx nx nd ne => by
  have s : ∀ o, Same H (upd (upd H dx (.own x)) x o) := fun o b u e => by rw [upd_ne (ne_of_none e nx), upd_ne (ne_of_none e nd)]; exact e
  exact k x dx _ (s _) nx upd_same fun o => by rw [upd_upd]; exact s o
theorem tMakeR_k (C : Addr) (sp : Sp) (E : XK) (t : TA) : tMakeR C sp E t = fun σ H Q => t σ H (kMake C sp E Q) := rfl
theorem tDNewK_k : tDNewK = fun _ H Q => kN (.dK []) Q H := rfl
/-- a list is changed by a store -/
def kPutS (l : Addr) (o : HO) (Q : Hp → Prop) : Hp → Prop := fun H => Q (upd H l o)
theorem kPutS.mk {l : Addr} {o : HO} {Q : Hp → Prop} {H : Hp} (k : ∀ H', Put H H' l o → Q H') : kPutS l o Q H := k _ ⟨upd_same, fun b n => upd_ne n⟩
theorem rSetL_k : rSetL = fun o i v H Q => ∃ p xs k j, o = .ref p ∧ i = .int k ∧ H p = some (.lst xs) ∧ ixN xs.length k = some j ∧ kPutS p (.lst (xs.set j v)) Q H := rfl
def kMakeG (C : Addr) (sp : Sp) (gV : List V → List V → List V) (E : XK) (Q : VK) (vs zs : List V) : Hp → Prop := fun H2 => ∀ x dx, H2 x = none → H2 dx = none → dx ≠ x → sp (gV (.ref x :: vs) zs) (upd (upd H2 dx (.own x)) x (.ins C dx [])) (fun v H3 => v = .non ∧ Q (.ref x) H3) E
theorem kMakeG.mk {C : Addr} {sp : Sp} {gV : List V → List V → List V} {E : XK} {Q : VK} {vs zs us : List V} {H : Hp} (e : ∀ x, gV (.ref x :: vs) zs = .ref x :: us) (k : kMake C sp E Q us H) : kMakeG C sp gV E Q vs zs H := fun x dx nx nd ne => by
  rw [e x]
  exact k x dx nx nd ne
theorem tMakeK_k (C : Addr) (n m : Nat) (sp : Sp) (gV : List V → List V → List V) (E : XK) (t tk : TA) : tMakeK C n m sp gV E t tk = fun σ H Q => t σ H fun vs H1 => tk σ H1 fun zs H2 => vs.length = n ∧ zs.length = m ∧ kMakeG C sp gV E Q vs zs H2 := rfl
theorem cx_K {CX : CXT} {P : Program} {w : World} {K : PySem.W.Frag} {mg : Str → Option Value} {base : Heap} {N : List Str} {q : Str} {sc : Scope} {f : Addr} {cdv : Value} {A : Around} {outer : List Env} {s : Shared} {H : Hp} {E : XK} : (cxOf CX P w K mg base N q sc f cdv A outer s H E).K = K := rfl
theorem nox_K {X : Cx} : X.nox.K = X.K := rfl
end Ow
end
section
set_option maxHeartbeats 4000000
/-! o[i] and o[i] = v by an own def; static methods called off a class. -/
namespace Ow
open PySem PySem.Spec PyProof.Rows L2 StX
section
variable {X : Cx} {CX : CXT} {n : Nat} {C g : Addr} {sp : Sp} {E : XK}
def rGetO (C : Addr) (sp : Sp) (E : XK) : R2 := fun x y H Q => ∃ a, x = .ref a ∧ InsAt H a C ∧ sp [x, y] H Q E
theorem pe_subO {o i : Expr} {to ti : TE} {pos : Pos} (hs : PySem.W.findIn X.K (.ref C) "__getitem__" = some (some (.ref g))) (hf : PySem.W.isFn X.K (.ref g) = true) (hfn : PySem.W.fnIn X.K g = true)
    (F : FnR X.prog X.w X.K X.mg X.base CX n g sp) (hr : Room (n + 1) X.A) (hx : Passes CX X E) (ha : PE X o to) (hb : PE X i ti)
    (hsl : ∀ (x : Addr) (u : Value), subscripted i true (.ref x) u = runValue (.builtin "lifetime.subscript" ⟨[.ref x, u], []⟩) := by intro _ _; with_unfolding_all rfl) : PE X (.Subscript o i pos) (tOp (rGetO C sp E) to ti) := by
  refine ⟨fun pins s σ H Q I h => ?_⟩
  refine Subscript_ (binT ha hb I h fun v u s2 x y H2 I2 rx ry q => ?_)
  obtain ⟨a, rfl, hi, q⟩ := q
  obtain rfl : v = Value.ref a := rx
  obtain ⟨ox, od, J⟩ := inst_of I2 hi
  obtain ⟨m, hF⟩ := I2.fr
  refine PySem.W.sub_K hF I2.ok.mod.kin J hs hfn hf ?_ (hsl a u)
  exact wpAny_call (run_fnRS (us := [.ref a, u]) (vs := [.ref a, y]) F hr.in1 rfl hx I2 (.cons rfl (.cons ry .nil)) q)
def rSetO (C : Addr) (sp : Sp) (E : XK) : V → V → V → Hp → (Hp → Prop) → Prop := fun o i v H Q => ∃ a, o = .ref a ∧ InsAt H a C ∧ sp [o, i, v] H (fun _ H' => Q H') E
theorem set_own (hq : PySem.W.noSeq X.K C = true) (hs : PySem.W.findIn X.K (.ref C) "__setitem__" = some (some (.ref g))) (hf : PySem.W.isFn X.K (.ref g) = true)
    (F : FnR X.prog X.w X.K X.mg X.base CX n g sp) (hr : Room n X.A) (hx : Passes CX X E) : PSet X (rSetO C sp E) := by
  intro pins s σ H o i v ov iv u Q I ro ri rv h
  obtain ⟨a, rfl, ha, q⟩ := h
  cases (show ov = Value.ref a from ro)
  obtain ⟨ox, od, J⟩ := inst_of I ha
  obtain ⟨m, hF⟩ := I.fr
  refine PySem.W.ksp_setItem hF I.ok.mod.kin J hq hs hf ?_
  refine wpAny_mono (wpAny_call (run_fnR (us := [.ref a, iv, u]) (vs := [.ref a, i, v]) F hr hx I (.cons rfl (.cons ri (.cons rv .nil))) q)) (fun w s' z => ?_) fun _ _ x => x
  obtain ⟨z', H', I', rz, qz⟩ := z
  exact ⟨H', I', qz⟩
/-- C.m is a static method: its record at p, its def at g -/
structure SMet (K : PySem.W.Frag) (C : Addr) (mc : Value) (m : Str) (p g : Addr) : Prop where
  at_ : PySem.W.findCls K (.ref C) mc m = some (.get (.builtin "staticmethod.__get__") (.ref p) .none (.ref C))
  rc : ∃ rest, PySem.W.recIn K p "staticmethod" = some (.ref g :: rest)
  kp : PySem.W.keepIn K (.ref g) = true
end
section
variable {X : Cx} {pins : List (Addr × Obj)} {σ : L2.St} {H : Hp} {s : Shared} {C p g : Addr} {mc : Value} {m : Str} {A : Around} {E : Value → Shared → Prop}
theorem getsm_ok {b : Bool} {Q : Value → Shared → Prop} (I : Inv X pins σ H s) (r : ClX.CRead X.K C mc) (k : SMet X.K C mc m p g)
    (h : ∀ s', Inv X pins σ H s' → Q (.ref g) s') : wpAny (model X.prog X.w) A (getAttr (.ref C) m b) Q E s := by
  obtain ⟨rest, hp⟩ := k.rc
  refine PySem.W.cls_bind I.kIn r.rd k.at_ ?_
  refine wpAny_call (PySem.W.sm_get (s := { s with toks := s.toks + 1 }) I.kIn hp (PySem.W.handed_on rfl ?_))
  exact h _ (I.tok _)
theorem getmethsm_ok {pl : Sem Bool} {Q : Value × List Value → Shared → Prop} (I : Inv X pins σ H s) (r : ClX.CRead X.K C mc) (k : SMet X.K C mc m p g)
    (h : ∀ s', Inv X pins σ H s' → Q (.ref g, []) s') : wpAny (model X.prog X.w) A (getMethod (.ref C) m pl) Q E s :=
  PySem.W.method_cls I.kIn r.ga (getsm_ok I r k h)
end
section
variable {X : Cx} {CX : CXT} {k : Nat} {C p g : Addr} {mc : Value} {sp : Sp} {E : XK} {o e : Expr} {es : List Expr} {m : Str} {pos apos : Pos} {ta : TE} {t : TA} {pl : Sem Bool}
def tSMeth (C : Addr) (sp : Sp) (E : XK) (ta : TE) (t : TA) : TE := fun σ H Q => ta σ H fun x H1 => x = .ref C ∧ t σ H1 fun vs H2 => sp vs H2 Q E
theorem pe_smeth (he : PE X o ta) (r : ClX.CRead X.K C mc) (c : SMet X.K C mc m p g) (F : FnR X.prog X.w X.K X.mg X.base CX k g sp) (hr : Room k X.A) (hx : Passes CX X E) (ha : PA X (e :: es) t)
    (hst : starEach (e :: es) X.env = (false, eval e X.env) :: starEach es X.env := by rfl) (hpl : (backTo pos (starEach es X.env)).any (·.1) = false := by rfl)
    (ht : eval (.Call (.Attribute o m apos) (e :: es) [] pos) X.env = (do
      let ov ← eval o X.env
      standAt apos.atName
      let (f, first) ← holding [ov] (getMethod ov m pl)
      callWith pos f first (backTo pos (starEach (e :: es) X.env)) (backToKw pos (keywordEach [] X.env))) := by rfl) :
    PE X (.Call (.Attribute o m apos) (e :: es) [] pos) (tSMeth C sp E ta t) := by
  refine ⟨fun pins s σ H Q I h => ?_⟩
  refine PySem.W.methodCall_KW (pl := pl) (thn (he.run pins s σ H _ I h) fun u s1 ⟨x, H1, I1, rx, ex, q⟩ => ?_) ht
  subst ex
  obtain rfl : u = Value.ref C := rx
  refine getmethsm_ok I1 r c fun s2 I2 => ?_
  refine PySem.W.callWith_K (h₀ := X.base) I.ok.mod.kin c.kp (thn (ha.run pos pins s2 σ H1 _ I2 q) fun us s3 ⟨vs, H2, I3, rv, q2⟩ => ⟨I3.kIn, ?_⟩) hst hpl
  refine wpAny_mono (wpAny_call (run_fnR F hr hx I3 rv q2)) (fun w s' z => z) fun _ _ x => x
/-- by keywords alone -/
def tSMethK (C : Addr) (n : Nat) (sp : Sp) (gV : List V → List V → List V) (E : XK) (ta : TE) (tk : TA) : TE := fun σ H Q => ta σ H fun x H1 => x = .ref C ∧ tk σ H1 fun zs H2 => zs.length = n ∧ sp (gV [] zs) H2 Q E
theorem pe_smethK {kws : List Keyword} {fd : FuncData} {ps ks : List Str} {tk : TA} {gl : List Value → List Value → List Value} {gV : List V → List V → List V} (he : PE X o ta) (r : ClX.CRead X.K C mc) (c : SMet X.K C mc m p g)
    (F : FnOk X.prog X.w X.K X.mg X.base CX k g fd ps sp) (hr : Room k X.A) (hb : KBn X.K fd ps 0 ks gl gV) (hx : Passes CX X E) (hkw : PK X kws tk)
    (hall : (backToKw pos (keywordEach kws X.env)).all (·.1.isSome) = true := by rfl) (hks : (backToKw pos (keywordEach kws X.env)).filterMap (·.1) = ks := by rfl)
    (hpl : ((backTo pos (starEach [] X.env)).any (·.1) || (backToKw pos (keywordEach kws X.env)).any (·.1.isNone)) = false := by rfl)
    (ht : eval (.Call (.Attribute o m apos) [] kws pos) X.env = (do
      let ov ← eval o X.env
      standAt apos.atName
      let (f, first) ← holding [ov] (getMethod ov m pl)
      callWith pos f first (backTo pos (starEach [] X.env)) (backToKw pos (keywordEach kws X.env))) := by rfl) :
    PE X (.Call (.Attribute o m apos) [] kws pos) (tSMethK C ks.length sp gV E ta tk) := by
  refine ⟨fun pins s σ H Q I h => ?_⟩
  refine PySem.W.methodCall_KW (pl := pl) (thn (he.run pins s σ H _ I h) fun u s1 ⟨x, H1, I1, rx, ex, q⟩ => ?_) ht
  subst ex
  obtain rfl : u = Value.ref C := rx
  refine getmethsm_ok I1 r c fun s2 I2 => ?_
  refine PySem.W.callWith_KW0 (h₀ := X.base) I.ok.mod.kin c.kp hall ?_ hpl
  refine thn (hkw.run pos pins s2 σ H1 _ I2 q) fun ws s3 ⟨zs, H3, I3, rz, l2, q2⟩ => ⟨I3.kIn, ?_⟩
  rw [hks]
  refine wpAny_call (codeAny_mono (F.run X.A X.stack s3 H3 ⟨[], ks.zip ws⟩ (gl [] ws) (gV [] zs) Q E hr I3.env0 (hb.to s3 [] ws I3.kIn rfl (rz.length.symm.trans l2)) (hb.rel .nil rz) q2) fun r s' hq => ?_)
  cases r with
  | error e => exact hx pins σ H3 s3 e s' I3 hq
  | ok fl =>
    cases fl with
    | ret u => exact I3.after hq
    | next => exact False.elim hq
    | brk => exact False.elim hq
    | cont => exact False.elim hq
end
end Ow
end
section
set_option maxHeartbeats 4000000
/-! enumerate(tuple). -/
namespace Ow
open PySem PySem.Spec PyProof.Rows L2 StX
/-- the tuple at a as it stands at each turn, each item in a new pair -/
def IteT (K : PySem.W.Frag) (a : Addr) : It :=
  ⟨fun i H => ∃ (xs : List V) (x : V), SqT K H a xs ∧ xs[i]? = some x, fun i H v H' => ∃ T x, v = .ref T ∧ H T = none ∧ H' = upd H T (.tup [.int (i : Nat), x]) ∧ ∀ xs, SqT K H a xs → xs[i]? = some x, fun i H => ∃ xs : List V, SqT K H a xs ∧ xs.length ≤ i⟩
theorem cls_ne {h : Heap} {a b : Addr} {oa ob : Obj} {ca cb : String} (ha : h.get? a = some oa) (hb : h.get? b = some ob) (ea : oa.cls = .type ca) (eb : ob.cls = .type cb) (d : ca ≠ cb) : a ≠ b := fun e => by
  subst e
  rw [ha] at hb
  cases hb
  rw [ea] at eb
  exact d (Value.type.inj eb)
theorem enum_doneT {prog : Program} {w : World} {A : Around} {E : Value → Shared → Prop} {s : Shared} {e it a : Addr} {i : Nat} {ys : Array Value} {old : Value} {Q : Option Value → Shared → Prop} (hh : A.in1.handled = none)
    (he : IsEnum s.heap e it i old) (ht : s.heap.IsTupleIter it a i) (hy : s.heap.IsTuple a ys) (hx : ys[i]? = none) (k : ∀ h', Heap.ExtBut it s.heap h' → Q none { s with heap := h' }) : wpAny (model prog w) A (pyNext (.ref e)) Q E s := by
  have ty : s.TypeIs (.ref e) "enumerate" := ⟨_, he, rfl⟩
  unfold pyNext
  refine wpAny_bind (wpAny_attempt (wpAny_callSpecial?_slot (name := Str.ofString "__next__") ty F.slot_enumerate_next (wpAny_call_entry F.slot_enumerate_next ty F.entry_enumerate_next ?_ (F.args_enumerate_next_1 _))))
  show wpAny _ _ (field (.ref e) 2 >>= _) _ _ _
  refine wpAny_bind (wpAny_field he rfl (x := .ref it) rfl (wpAny_bind (wpAny_nextOf_tuple_end hh ht hy hx fun h' x h1 h2 => ?_)))
  obtain ⟨o, ho, hc⟩ := h2
  exact wpAny_bind (wpAny_isInstance (T := "StopIteration") (b := true) ⟨o, ho, hc⟩ isSubtype_stop (wpAny_pure (k _ h1)))
theorem turn_enumT {P : Program} {w : World} {K : PySem.W.Frag} {elts : List Expr} {kk : Nat} {tpos : Pos} (a e it : Addr) :
    Turn P w K (.Tuple elts kk tpos) (IteT K a) [e, it] e (fun i h => (∃ old, IsEnum h e it ((i : Nat) : Int) old) ∧ h.IsTupleIter it a i ∧ e ≠ it) where
  mem := by simp
  obj := fun i h st b hb => by
    obtain ⟨⟨old, he⟩, ⟨o, ho, hc, hd⟩, _⟩ := st
    have e' : b = e ∨ b = it := by simpa using hb
    rcases e' with z | z
    · rw [z]; exact ⟨_, he, fun v q => nomatch q⟩
    · rw [z]; exact ⟨o, ho, fun v q => by rw [hd] at q; cases q⟩
  keep := fun i h h' st k => let ⟨⟨old, he⟩, hi, hne⟩ := st; ⟨⟨old, k e (by simp) _ he⟩, hi.at fun o q => k it (by simp) o q, hne⟩
  item := by
    intro X hP hw hK hc i pins s σ H E I hf st hg
    subst hP hw hK
    obtain ⟨⟨old, he⟩, hit, hne⟩ := st
    obtain ⟨xs, x, hq, hx⟩ := hg
    obtain ⟨its, rv, p, hz⟩ := I.tuple hq
    obtain ⟨u, hu, ru⟩ := rv.get hx
    have hel : e < s.heap.objs.size := Heap.lt_size he
    have hil : it < s.heap.objs.size := by obtain ⟨_, q, _⟩ := hit; exact Heap.lt_size q
    have hai : a ≠ it := by
      obtain ⟨o1, h1, c1, _⟩ := p
      obtain ⟨o2, h2, c2, _⟩ := hit
      exact cls_ne h1 h2 c1 c2 (by decide)
    have hea : e ≠ a := by
      obtain ⟨o1, h1, c1, _⟩ := p
      exact cls_ne he h1 rfl c1 (by decide)
    have hlt : i < its.toArray.size := by
      have := rv.length
      have h3 : i < xs.length := by
        by_cases y : i < xs.length
        · exact y
        · rw [List.getElem?_eq_none (by omega)] at hx
          cases hx
      rw [List.size_toArray]
      omega
    refine wpAny_pyNext_enum_itemD (Draws.tuple (A := X.A.in1) (I.ok.hd hc) it a hai its.toArray) he ⟨hit, p⟩ hlt hne (by simp [hne, hea]) fun x2 h' tk hP ho hit2 hT hsz hk => ?_
    obtain ⟨hit', _⟩ := hit2
    have hxu : x2 = u := by
      have h5 : its[i]? = some x2 := by simpa using hP
      rw [hu] at h5
      exact (Option.some.inj h5).symm
    subst hxu
    refine ⟨_, rfl, wpAny_letOwnedTupleGo_enum (s := { s with heap := h', toks := tk + 1 }) ho fun h'' he' sb => ?_⟩
    have hT2 : h''.get? s.heap.objs.size = some { cls := .type "tuple", data := .seq #[.int i tk, x2] } := (sb.2 _ (Nat.ne_of_gt hel)).trans hT
    have new : ObjOk X.prog X.w (upd H s.heap.objs.size (.tup [.int (i : Nat), x])) h'' s.heap.objs.size (.tup [.int (i : Nat), x]) :=
      ⟨by show 2 ≤ sizeLine; decide, [.int i tk, x2], .cons ⟨_, rfl⟩ (.cons ru .nil), ⟨_, hT2, rfl, _, rfl⟩⟩
    have I1 : Inv X pins σ (upd H s.heap.objs.size (.tup [.int (i : Nat), x])) { s with heap := h'', toks := tk + 1 } :=
      I.turnedNew (ch := [e, it]) (fun b ob hb q => (sb.2 b (fun z => hb (by simp [z]))).trans (hk b ob (fun z => hb (by simp [z])) (fun z => hb (by simp [z])) q)) hf (Nat.le_refl _) new
    refine ⟨.ref s.heap.objs.size, _, I1, rfl, ⟨_, x, rfl, I.hok.fresh (Nat.le_refl _), rfl, fun ys hy => by rw [I.tuple_inj hy hq]; exact hx⟩, ⟨⟨x2, ?_⟩, hit'.at fun o q => (sb.2 it (Ne.symm hne)).trans q, hne⟩, fun b hb => ?_⟩
    · have e1 : ((i + 1 : Nat) : Int) = (i : Int) + 1 := by omega
      rw [e1]; exact he'
    · have hb' : b < s.heap.objs.size := by
        have e' : b = e ∨ b = it := by simpa using hb
        rcases e' with z | z
        · rw [z]; exact hel
        · rw [z]; exact hil
      rw [upd_ne (Nat.ne_of_lt hb')]
      exact (hf b hb).1
  done := by
    intro X hP hw hK hc i pins s σ H E I hf st hg
    subst hP hw hK
    obtain ⟨⟨old, he⟩, hit, hne⟩ := st
    obtain ⟨xs, hq, hx⟩ := hg
    obtain ⟨its, rv, p, hz⟩ := I.tuple hq
    obtain ⟨f0, f1, f2, f3, f4, f5⟩ := hf it (by simp)
    have hl := rv.length
    exact enum_doneT (I.ok.hd hc) he hit p (by simp; omega) fun h' eb => ⟨rfl, I.turned (t' := s.toks) (fun b o hb q => eb b o hb q) f0 f1 f3 f4 f5⟩
  self := fun A i s Q E st h => let ⟨⟨_, he⟩, _⟩ := st; wpAny_pyIter_enum he h
theorem meets_enumT (a : Addr) (ys : Array Value) :
    Meets (Builtin.«enumerate.__new__» ⟨[.type "enumerate", .ref a], []⟩) (fun _ R s => s.heap.IsTuple a ys ∧
      R (.ok (.ret (.ref (s.heap.push { cls := .type "tuple_iterator", data := .fields #[.ref a, .int 0 0] }).objs.size)))
        { s with heap := (s.heap.push { cls := .type "tuple_iterator", data := .fields #[.ref a, .int 0 0] }).push { cls := .type "enumerate", data := .fields #[.none, .bool false, .ref s.heap.objs.size, rawInt 0, .none, .none] } }) :=
  .of_wp fun prog w A R s h => by
    obtain ⟨hp, g, d, tk, os⟩ := s
    obtain ⟨hl, h⟩ := h
    have hsub := sub_enumerate
    have q1 : ∀ {A' : Around} {E : Value → Shared → Prop} {Q : Value → Shared → Prop}, Q (.ref hp.objs.size) ⟨hp.push { cls := .type "tuple_iterator", data := .fields #[.ref a, .int 0 0] }, g, d, tk, os⟩ → wpAny (model prog w) A' (pyIter (.ref a)) Q E ⟨hp, g, d, tk, os⟩ :=
      fun q => wpAny_pyIter_tuple (s := ⟨hp, g, d, tk, os⟩) hl q
    wp_walk using q1
    refine wpAny_stack_any fun st => wpAny_pure ?_
    split
    · rename_i c _ _ _ _ _
      cases (c == Value.type "enumerate")
      · wp_walk using q1
        exact ⟨_, rfl, h⟩
      · wp_walk using q1
        exact ⟨_, rfl, h⟩
    · wp_walk using q1
      exact ⟨_, rfl, h⟩
theorem call_enumT {prog : Program} {w : World} {A : Around} {E : Value → Shared → Prop} {s : Shared} {a : Addr} {ys : Array Value} {Q : Value → Shared → Prop} (hy : s.heap.IsTuple a ys)
    (k : ∀ h', IsEnum h' (s.heap.objs.size + 1) s.heap.objs.size 0 .none → h'.IsTupleIter s.heap.objs.size a 0 → (∀ b o, s.heap.get? b = some o → h'.get? b = some o) → Q (.ref (s.heap.objs.size + 1)) { s with heap := h' }) :
    wpAny (model prog w) A (call (.type "enumerate") [.ref a]) Q E s := by
  refine callType_new F.called_enumerate (by decide) (F.typeCall_enumerate_1 _) (F.newCall_enumerate_1 _) (fun obj => F.args_object_init_2 obj _) F.entry_enumerate_new (meets_enumT a ys) ⟨hy, ?_⟩
  have hz : (s.heap.push { cls := .type "tuple_iterator", data := .fields #[.ref a, .int 0 0] }).objs.size = s.heap.objs.size + 1 := Heap.size_push ..
  have e1 : ((s.heap.push { cls := .type "tuple_iterator", data := .fields #[.ref a, .int 0 0] }).push { cls := .type "enumerate", data := .fields #[.none, .bool false, .ref s.heap.objs.size, rawInt 0, .none, .none] }).get? (s.heap.objs.size + 1) = some { cls := .type "enumerate", data := .fields #[.none, .bool false, .ref s.heap.objs.size, rawInt 0, .none, .none] } := by
    rw [← hz]
    exact Heap.get?_push_size _ rfl
  have e2 : ((s.heap.push { cls := .type "tuple_iterator", data := .fields #[.ref a, .int 0 0] }).push { cls := .type "enumerate", data := .fields #[.none, .bool false, .ref s.heap.objs.size, rawInt 0, .none, .none] }).get? s.heap.objs.size = some { cls := .type "tuple_iterator", data := .fields #[.ref a, .int 0 0] } := Heap.get?_push_of_some _ (Heap.get?_push_size _ rfl)
  show _ ∧ _
  rw [hz]
  exact ⟨⟨_, e1, rfl⟩, k _ e1 ⟨_, e2, rfl, rfl⟩ fun b o e => Heap.get?_push_of_some _ (Heap.get?_push_of_some _ e)⟩
def iEnumT (K : PySem.W.Frag) (ta : TA) : TI := fun σ H R => ta σ H fun vs H1 => ∃ a xs, vs = [.ref a] ∧ ((SqL K H1 a xs ∧ R (Ite K a) H1) ∨ (SqT K H1 a xs ∧ R (IteT K a) H1))
theorem pi_enumT {X : Cx} {e : Expr} {ta : TA} {p pos tpos : Pos} {elts : List Expr} {kk : Nat} (hg : Gl X "enumerate") (hm : X.mg "enumerate" = none) (ha : PA X [e] ta) (hs : starEach [e] X.env = [(false, eval e X.env)] := by rfl) :
    PI X (.Tuple elts kk tpos) (.Call (.Name "enumerate" p) [e] [] pos) (iEnumT X.K ta) := by
  refine ⟨fun pins s σ H R I h => ?_⟩
  refine Call_ (ld_blt I hg hm boot_enumerate (PyProof.Rows.callWith_type1 (thn (ha.run pos pins s σ H _ I h) fun us s1 ⟨vs, H1, I1, r1, q1⟩ => ?_) hs rfl))
  obtain ⟨a, xs, ex, q⟩ := q1
  subst ex
  obtain ⟨u, rfl, ru⟩ := vals1 r1
  obtain rfl : u = Value.ref a := ru
  have fp : ∀ b ∈ [s1.heap.objs.size + 1, s1.heap.objs.size], FpOk X pins H1 b := fun b hb => by
    have hle : s1.heap.objs.size ≤ b := by
      simp only [List.mem_cons, List.not_mem_nil, or_false] at hb
      omega
    exact I1.fpOk hle (I1.hok.fresh hle)
  rcases q with ⟨hq, q⟩ | ⟨hq, q⟩
  · obtain ⟨its, rv, p', hz⟩ := I1.list hq
    refine call_enumerate_list p'.isList fun h' he hit hsz hk => wpAny_pyIter_enum he ?_
    exact ⟨s1.heap.objs.size + 1, _, _, _, H1, rfl, I1.kept (t' := s1.toks) hk, turn_enum a (s1.heap.objs.size + 1) s1.heap.objs.size, ⟨⟨.none, he⟩, hit, Nat.succ_ne_self _⟩, fp, q⟩
  · obtain ⟨its, rv, p', hz⟩ := I1.tuple hq
    refine call_enumT p' fun h' he hit hk => wpAny_pyIter_enum he ?_
    exact ⟨s1.heap.objs.size + 1, _, _, _, H1, rfl, I1.kept (t' := s1.toks) hk, turn_enumT a (s1.heap.objs.size + 1) s1.heap.objs.size, ⟨⟨.none, he⟩, hit, Nat.succ_ne_self _⟩, fp, q⟩
theorem walk_enumT {K : PySem.W.Frag} {a : Addr} {xs : List V} : Walk (IteT K a) xs.length (fun H => SqT K H a xs) (YPair (fun i => some (.int (i : Nat))) (fun i => xs[i]?)) := by
  refine ⟨fun i _ hi q => ⟨xs, xs[i], q, by simp [hi]⟩, fun _ q => ⟨xs, q, Nat.le_refl _⟩, fun i H v H' _ q y => ?_⟩
  obtain ⟨T, x, h1, h2, h3, h4⟩ := y
  exact ⟨T, .int (i : Nat), x, h1, h2, h3, rfl, h4 xs q⟩
/-- text * int -/
def rMulS : R2 := fun x y H Q => ∃ z n, x = .str z ∧ y = .int n ∧ MulOk z n ∧ Q (.str (Txt.mul z n)) H
theorem op_mulS {X : Cx} : OpR X (binaryOp .Mult) rMulS := by
  intro pins s σ H x y v u Q I rx ry h
  obtain ⟨z, n, rfl, rfl, ok, q⟩ := h
  obtain ⟨t, rfl⟩ := rx
  obtain ⟨t', rfl⟩ := ry
  exact SB.mul ok fun t2 k => ⟨.str (Txt.mul z n), H, I.tok _, ⟨t2, rfl⟩, q⟩
theorem fold_one (d : Nat) : ∀ (m : Nat) (acc : List Nat), (List.replicate m #[d]).foldl (fun a b => a ++ b) acc.toArray = (acc ++ List.replicate m d).toArray
  | 0, acc => by simp
  | m + 1, acc => by
    rw [List.replicate_succ, List.foldl_cons, List.append_toArray, fold_one d m (acc ++ [d]), List.replicate_succ, List.append_assoc]
    rfl
theorem mul_one (d : Nat) {n : Int} (h : 1 ≤ n) : Txt.mul (SX.S [d]) n = SX.S (List.replicate n.toNat d) := by
  unfold Txt.mul
  rw [if_neg (by omega)]
  by_cases e : n = 1
  · subst e
    rfl
  · rw [if_neg (by
      rw [SX.S_len]
      simp [e])]
    have := fold_one d n.toNat []
    exact congrArg Str.mk this
theorem mulOk_one (d : Nat) {n : Int} (h : 1 ≤ n) (h2 : n ≤ 100000) : MulOk (SX.S [d]) n := by
  refine ⟨?_, fun _ _ => ?_, fun _ _ => ?_⟩
  · rw [Bool.or_eq_false_iff]
    exact ⟨decide_eq_false (by omega), decide_eq_false (by omega)⟩
  · rw [SX.S_len]
    have : (1 : Int) ≤ (2 ^ 63 - 1) / n := Int.le_ediv_of_mul_le (by omega) (by omega)
    intro z
    have z : (1 : Int) > (2 ^ 63 - 1) / n := z
    omega
  · rw [SX.S_len]
    show Builtin.Str.tooLong (1 * n.toNat) = false
    exact decide_eq_false (Nat.not_lt.mpr (Nat.le_trans (show 1 * n.toNat ≤ 100000 by omega) (by decide +kernel)))
theorem vals_rev {vs : List V} {us : List Value} (r : Vals vs us) : Vals vs.reverse us.reverse := by
  induction r with
  | nil => exact .nil
  | cons h t ih =>
    rw [List.reverse_cons, List.reverse_cons]
    exact ih.append (.cons h .nil)
/-- a def's promise by binds, with the def itself (for calls by keywords) -/
theorem FnT.okF {P : Program} {w : World} {K : PySem.W.Frag} {mg : Str → Option Value} {base : Heap} {x qual : Str} {st : Stmt} {dvs : List V} {f : Addr} {N ps : List Str} {k : Nat} {sp : Sp} (F : FnT K x qual st dvs f) (S : FnScope N ps (defScope st)) (len : ∀ vs H Q E, sp vs H Q E → vs.length = ps.length)
    (hbody : ∀ (cdv : Value) (A : Around) (outer : List Env) (s : Shared) (H : Hp) (vs : List V) (Q : VK) (E : XK), Room k (A.deeper (envOfC qual (defScope st) s.heap.objs.size f cdv)) → sp vs H Q E →
      ∃ t, PSs (cxOf CX0 P w K mg base N qual (defScope st) f cdv A outer s H E).nox (defBody st) t ∧ t { nx := fun _ H' => Q .non H', rt := Q } (L2.start N vs) H) :
    ∃ fd, FnOk P w K mg base CX0 (k + 1) f fd ps sp ∧ FunD K x qual (defArgs st) (defBody st) (defScope st) dvs [] f fd := by
  obtain ⟨fd, F⟩ := F
  exact ⟨fd, F.ok S len fun cdv A outer s H vs Q E hr hsp => by
    obtain ⟨t, h, q⟩ := hbody cdv A outer s H vs Q E hr hsp
    exact ⟨t, h.nox, q⟩, F⟩
end Ow
end
section
namespace Ow
open PySem PySem.Spec PyProof.Rows L2
/-- a static method's facts, of pieces that k_is finds -/
theorem smet_mk {K : PySem.W.Frag} {C p g : Addr} {m : Str} {ta : Value} {rest : List Value}
    (h1 : PySem.W.findIn K (.ref C) m = some (some (.ref p)))
    (h2 : PySem.W.findIn K (.type "type") m = some none)
    (h3 : PySem.W.typeIn K (.ref p) = some ta)
    (h4 : PySem.W.bareKinds.contains ta = false)
    (h5 : PySem.W.specialIn K (.ref p) "__get__" = some (some (.builtin "staticmethod.__get__")))
    (h6 : PySem.W.recIn K p "staticmethod" = some (.ref g :: rest)) (h7 : PySem.W.keepIn K (.ref g) = true) :
    SMet K C (.type "type") m p g := by
  refine ⟨?_, ⟨_, h6⟩, h7⟩
  unfold PySem.W.findCls
  simp only [h2, h1, h3, h4, h5, Option.bind, Builtin.heldUnderItsOwnName]
  rfl
end Ow
end
section
namespace Ow
open PySem PySem.Spec PyProof.Rows L2
/-- a suite that names what was caught: slot i holds it, and is empty behind the suite -/
def asTS (i : Nat) (ts : Addr → Value → Option Addr → TS) : Addr → Value → Option Addr → TS := fun a cls d D σ H =>
  ts a cls d { nx := fun σ' H' => D.nx (σ'.set i none) H', rt := D.rt, bk := fun σ' H' => D.bk (σ'.set i none) H', ct := fun σ' H' => D.ct (σ'.set i none) H' } (σ.set i (some (.ref a))) H
/-- clauses of a try, each with a class by its name, with or without a name for what is caught -/
inductive HdsM (X : Cx) : List ExceptHandler → List (Value × (Addr → Value → Option Addr → TS)) → Prop
  | nil : HdsM X [] []
  | plain {x : Str} {c : Value} {ts : Addr → Value → Option Addr → TS} {b₀ : Stmt} {suite : List Stmt} {np pos' : Pos} {hds : List ExceptHandler} {l : List (Value × (Addr → Value → Option Addr → TS))} (hc : Names X x c)
      (hsu : ∀ (a : Addr) (oe : Obj) (cls : Value) (d : Option Addr) (pn : List (Addr × Obj)), Zc cls d oe → (∃ vs, oe.data = .fields vs) → PSs (X.suite a ((a, oe) :: pn)) (b₀ :: suite) (ts a cls d)) (r : HdsM X hds l) :
      HdsM X (.ExceptHandler (some (.Name x np)) none (b₀ :: suite) pos' :: hds) ((c, ts) :: l)
  | named {x n : Str} {i : Nat} {c : Value} {ts : Addr → Value → Option Addr → TS} {b₀ : Stmt} {suite : List Stmt} {np pos' : Pos} {hds : List ExceptHandler} {l : List (Value × (Addr → Value → Option Addr → TS))} (hi : X.N[i]? = some n) (hln : X.env.kindOf n = some .local) (hc : Names X x c)
      (hsu : ∀ (a : Addr) (oe : Obj) (cls : Value) (d : Option Addr) (pn : List (Addr × Obj)), Zc cls d oe → (∃ vs, oe.data = .fields vs) → PSs (X.suite a ((a, oe) :: pn)) (b₀ :: suite) (ts a cls d)) (r : HdsM X hds l) :
      HdsM X (.ExceptHandler (some (.Name x np)) (some n) (b₀ :: suite) pos' :: hds) ((c, asTS i ts) :: l)
set_option maxHeartbeats 4000000
/-- try with any row of clauses, some with `as` -/
theorem ps_try_mix {X : Cx} {body : List Stmt} {h₀ : ExceptHandler} {hds : List ExceptHandler} {l : List (Value × (Addr → Value → Option Addr → TS))} {pos : Pos} {tb : WX → TS} {Wout : WX} (hs : X.stack = X.env :: X.outer) (hf : X.env.frame = some X.env.locals) (hN : X.N.Nodup) (tk : Takes X Wout)
    (hb : ∀ (W : WX) (pn : List (Addr × Obj)) (xe : Value → Shared → Prop), Takes (X.tr pn xe) W → PassesOwn (model X.prog X.w) X.A X.env xe → PSs (X.tr pn xe) body (tb W)) (hh : HdsM X (h₀ :: hds) l) :
    PS X (.Try body (h₀ :: hds) [] [] pos) (fun D σ H => tb (wMany X.K Wout D l) D σ H) := by
  refine ⟨fun pins s σ H D I h => ?_⟩
  have ok := I.ok
  have hfr : X.A.frames = some (X.env :: X.outer) := by rw [ok.frames, hs]
  refine wpAny_Try_except (wpAny_mono ((hb (wMany X.K Wout D l) (X.pn ++ pins) (fun e s₁ => wpAny (model X.prog X.w) X.A (noteFrame e X.env) (fun _ s₂ => wpAny (model X.prog X.w) X.A (setFlight e none) (fun _ s₃ => wpAny (model X.prog X.w) X.A (handleBy e X.env (h₀ :: hds)) (SP X pins D) X.xe s₃) X.xe s₂) X.xe s₁) ?_ PassesOwn.looking).run [] s σ H D (Inv.toTry I _) h) (fun f s1 hsp => ?_) fun e s1 he => he)
  · intro u s' xx
    obtain ⟨a, B, sI, pins', σ', H', cls, d, rfl, J', nb, up, sky, na, os, ag, w⟩ := xx
    have J := Inv.ofTry J' ok
    have sky' : Sky B (X.env :: X.outer) a (Zc cls d) X.env.locals s'.heap := by rw [← hs]; exact sky
    refine Sky.land Zc.steady hfr hf sky' fun h3 fl3 up3 => ?_
    have J3 := Inv.landed (s' := { heap := h3, gens := s'.gens, drawn := s'.drawn, toks := s'.toks, os := s'.os }) J nb fl3.left (Heap.UpToSlots.trans up up3) os ag
    obtain ⟨oe3, vs3, he3, hz3, hd3⟩ := HandSPX.FlyingZ.there fl3
    have nfr : ¬ a ∈ List.filterMap (fun x : Env => x.frame) (X.env :: X.outer) := fun hm => by
      obtain ⟨_, o', e', hnf⟩ := Heap.FunFrames.mem fl3.right.right.left hm
      have e2 := e'.symm.trans he3
      cases e2
      exact hnf _ hd3
    have nL : a ≠ X.env.locals := fun z => nfr (List.mem_filterMap.mpr ⟨X.env, List.mem_cons_self .., by rw [hf, z]⟩)
    have nF : ¬ a ∈ X.fs := fun hm => by
      obtain ⟨e, he, q⟩ := List.mem_filterMap.mp hm
      exact nfr (List.mem_filterMap.mpr ⟨e, List.mem_cons_of_mem _ he, q⟩)
    have S3 := Inv.suite J3 he3 hd3 na nL nF
    clear h hb
    have key : ∀ (hds' : List ExceptHandler) (l' : List (Value × (Addr → Value → Option Addr → TS))), HdsM X hds' l' → wMany X.K Wout D l' cls d σ' H' → wpAny (model X.prog X.w) X.A (handleBy (.ref a) X.env hds') (SP X pins D) X.xe { heap := h3, gens := s'.gens, drawn := s'.drawn, toks := s'.toks, os := s'.os } := by
      intro hds' l' hk
      have LT : W.Looks (model X.prog X.w) h3 (typeOf (Value.ref a)) cls := fun A Q E s k q => wpAny_typeOf_ref (k a oe3 he3) (by rw [hz3.left]; exact q)
      have test : ∀ {x : Str} {c : Value} {np : Pos} {Q : Value → Shared → Prop} {E : Value → Shared → Prop}, Names X x c → Q c { heap := h3, gens := s'.gens, drawn := s'.drawn, toks := s'.toks, os := s'.os } →
          wpAny (model X.prog X.w) (X.A.mark (some (.ref a))) (eval (.Name x np) X.env) Q E { heap := h3, gens := s'.gens, drawn := s'.drawn, toks := s'.toks, os := s'.os } := by
        intro x c np Q E hc q
        obtain ⟨hg, hdbg, hm | ⟨hm, hv, hnn⟩⟩ := hc
        · exact ld_glob (X := X.suite a _) S3 hg hm q hdbg
        · exact ld_blt (X := X.suite a _) S3 hg hm hv q hnn hdbg
      induction hk with
      | nil =>
        intro w
        refine wpAny_handleBy_nil ?_
        have fl := fl3
        obtain ⟨k1, k2, k3, oe, vs, T, oT, ts', he, hz, hd, h1, hr⟩ := fl3
        unfold PySem.passOn
        refine wpAny_bind (wpAny_field he hd h1 ?_)
        rw [if_neg (by simp)]
        refine wpAny_bind ?_
        rw [hf]
        exact HandSPX.setFlight_upZ fl fun h4 hh4 up4 => wpAny_throw (tk _ _ ⟨a, B, sI, pins, σ', H', cls, d, rfl, J, nb, (up.trans up3).trans up4, .inr (.inr (by rw [hs]; exact hh4)), na, os, ag, w⟩)
      | plain hc hsu r ih =>
        intro w
        obtain ⟨b, hb1, hyes, hno⟩ := w
        refine wpAny_handleBy_cons (codeAny_handlers_test (test hc (W.Looks.here (W.exm_one (Inv.kIn J3) LT hb1) ?_))) (fun q => by cases q)
        cases b with
        | false => exact ih (hno rfl)
        | true =>
          refine codeAny_handlers_suite (HandSPX.lands_againZ fl3 fun h4 fl4 up4 => ?_)
          have J4 := Inv.landed (s' := { heap := h4, gens := s'.gens, drawn := s'.drawn, toks := s'.toks, os := s'.os }) J nb fl4.left (Heap.UpToSlots.trans (Heap.UpToSlots.trans up up3) up4) os ag
          obtain ⟨oe4, vs4, he4, hz4, hd4⟩ := HandSPX.FlyingZ.there fl4
          have S4 := Inv.suite J4 he4 hd4 na nL nF
          refine wpAny_mono ((hsu a oe4 cls d (X.pn ++ pins) hz4 ⟨vs4, hd4⟩).run [] _ σ' H' D S4 (hyes rfl a na)) (fun f s6 hsp => ?_) fun _ _ z => False.elim z
          cases f with
          | next => obtain ⟨σ6, H6, S6, q6⟩ := hsp; exact ⟨σ6, H6, Inv.unsuite S6 ok, q6⟩
          | brk => obtain ⟨σ6, H6, S6, q6⟩ := hsp; exact ⟨σ6, H6, Inv.unsuite S6 ok, q6⟩
          | cont => obtain ⟨σ6, H6, S6, q6⟩ := hsp; exact ⟨σ6, H6, Inv.unsuite S6 ok, q6⟩
          | ret u => obtain ⟨v6, σ6, H6, S6, r6, q6⟩ := hsp; exact ⟨v6, σ6, H6, Inv.unsuite S6 ok, r6, q6⟩
      | named hi hln hc hsu r ih =>
        intro w
        obtain ⟨b, hb1, hyes, hno⟩ := w
        refine wpAny_handleBy_cons (codeAny_handlers_test (test hc (W.Looks.here (W.exm_one (Inv.kIn J3) LT hb1) ?_))) (fun q => by cases q)
        cases b with
        | false => exact ih (hno rfl)
        | true =>
          refine codeAny_handlers_suite_as (HandSPX.lands_againZ fl3 fun h4 fl4 up4 => ?_)
          have J4 := Inv.landed (s' := { heap := h4, gens := s'.gens, drawn := s'.drawn, toks := s'.toks, os := s'.os }) J nb fl4.left (Heap.UpToSlots.trans (Heap.UpToSlots.trans up up3) up4) os ag
          obtain ⟨oe4, vs4, he4, hz4, hd4⟩ := HandSPX.FlyingZ.there fl4
          have S4 := Inv.suite J4 he4 hd4 na nL nF
          refine store_ok (X := X.suite a ((a, oe4) :: (X.pn ++ pins))) (v := .ref a) S4 hN hi (Or.inl hln) rfl (fun s5 S5 => ?_) (Or.inr hln)
          refine wpAny_mono ((hsu a oe4 cls d (X.pn ++ pins) hz4 ⟨vs4, hd4⟩).run [] s5 _ H' _ S5 (hyes rfl a na)) (fun f s6 hsp => ?_) fun _ _ z => False.elim z
          cases f with
          | next => obtain ⟨σ6, H6, S6, q6⟩ := hsp; exact gone_ok (Inv.unsuite S6 ok) hN hi hln fun s7 J7 => ⟨_, H6, J7, q6⟩
          | brk => obtain ⟨σ6, H6, S6, q6⟩ := hsp; exact gone_ok (Inv.unsuite S6 ok) hN hi hln fun s7 J7 => ⟨_, H6, J7, q6⟩
          | cont => obtain ⟨σ6, H6, S6, q6⟩ := hsp; exact gone_ok (Inv.unsuite S6 ok) hN hi hln fun s7 J7 => ⟨_, H6, J7, q6⟩
          | ret u => obtain ⟨v6, σ6, H6, S6, r6, q6⟩ := hsp; exact gone_ok (Inv.unsuite S6 ok) hN hi hln fun s7 J7 => ⟨v6, _, H6, J7, r6, q6⟩
    exact key _ _ hh w
  · cases f with
    | next => obtain ⟨σ', H', J', q⟩ := hsp; exact wpAny_execs_nil ⟨σ', H', Inv.ofTry J' ok, q⟩
    | brk => obtain ⟨σ', H', J', q⟩ := hsp; exact ⟨σ', H', Inv.ofTry J' ok, q⟩
    | cont => obtain ⟨σ', H', J', q⟩ := hsp; exact ⟨σ', H', Inv.ofTry J' ok, q⟩
    | ret u => obtain ⟨v, σ', H', J', r, q⟩ := hsp; exact ⟨v, σ', H', Inv.ofTry J' ok, r, q⟩
end Ow
end
section
set_option maxHeartbeats 4000000
/-! The same for a law that shows dicts, too: the table of modules is told. -/
namespace Ow
open PySem PySem.Spec PyProof.Rows L2 StX
section
variable {P : Program} {w : World} {K : PySem.W.Frag} {mg mb : Str → Option Value} {k : Nat} {fa a c T : Addr} {sp : Sp} {s1 : Shared} {vs : List Value} {ns : List Int}
theorem end_fromTB (KX : K.In s1.heap) (hns : s1.heap.Ns mainGlobals mg) (hb : s1.heap.Ns builtinsNs mb) (hbb : ∀ x : Str, x ≠ "__name__" → mb x = bootBuiltins x) (hlim : s1.heap.NoLimit) (hsy : SysB s1.heap) (hg : s1.gens = #[]) (hr : Room k callerA)
    (eT : s1.heap.get? T = some tab0) (nT : K.lookup T = none) (cT : PySem.W.CodeHd s1.heap c T)
    (main : ∃ (m : Addr) (o : Obj), mg "__builtins__" = some (.ref m) ∧ m ≠ builtinsNs ∧ s1.heap.get? m = some o ∧ o.cls = .type "module" ∧ o.dict = some builtinsNs ∧ o.data = .plain)
    (F : ∀ base : Heap, K.In base → base.Ns mainGlobals mg → LamX.TabB base mg c T → SysB base → FnG P w K mg base CX0 k fa sp) {H : Hp} (B : Begin K s1.heap T H) (hok : HOk P w H s1.heap)
    (hsp : sp [.ref a] H (fun v _ => v = .bl true) fun _ _ _ => False) :
    codeAny (model P w) callerA (.call (.ref fa) ⟨[.ref a], []⟩) (fun r s' => r = .ok (.ret (.bool true)) ∧ OldK s1.heap s'.heap ∧ s'.os = s1.os ∧ AllBare s'.gens) s1 := by
  let base := hidT s1.heap H
  have free : ∀ {b : Addr} {o : Obj}, s1.heap.get? b = some o → (∀ items n, o.data ≠ .seq items n) → o.data ≠ .fields #[] → base.get? b = some o := fun {b o} e d1 d2 => by
    refine hidT_get e ?_
    by_cases q : b = T
    · rw [q, eT] at e
      cases e
      exact (d2 rfl).elim
    · rcases B.rest b q with z | ⟨o2, xs, items, n, _, _, e2, z⟩
      · exact z
      · rw [e] at e2
        cases e2
        exact (d1 _ _ z).elim
  have names : ∀ {b : Addr} {m : Str → Option Value}, s1.heap.Ns b m → base.Ns b m := fun z => by
    obtain ⟨o, es, ep, e, d, r⟩ := z
    exact ⟨o, es, ep, free e (fun _ _ y => by rw [d] at y; cases y) (fun y => by rw [d] at y; cases y), d, r⟩
  have hK : K.In base := fun b o e => by
    refine hidT_get (KX b o e) ?_
    by_cases q : b = T
    · rw [q, nT] at e
      cases e
    · rcases B.rest b q with z | ⟨o2, xs, items, n, _, z, _⟩
      · exact z
      · rw [e] at z
        cases z
  have lim : base.NoLimit := by
    obtain ⟨m, h1, h2⟩ := hlim
    exact ⟨m, names h1, h2⟩
  have TB : LamX.TabB base mg c T := by
    refine ⟨?_, ?_, fun z => ?_⟩
    · obtain ⟨o, us, file, tf, flags, tg, inF, text, tt, e1, p1, p2, p3, p4, p5, p6, p7, p8, p9⟩ := cT
      exact ⟨o, us, file, tf, flags, tg, inF, text, tt, free e1 (fun _ _ y => by rw [p2] at y; cases y) (fun y => by rw [p2] at y; cases y; simp at p3), p1, p2, p3, p4, p5, p6, p7, p8, p9⟩
    · obtain ⟨m, o, q1, q2, q3, q4, q5, q6⟩ := main
      refine ⟨m, o, q1, q2, fun y => ?_, fun y => ?_, free q3 (fun _ _ y => by rw [q6] at y; cases y) (fun y => by rw [q6] at y; cases y), q4, q5, q6⟩
      · obtain ⟨og, es, ep, e, d, _⟩ := hns
        rw [y, e] at q3
        cases q3
        rw [q6] at d
        cases d
      · rw [y, eT] at q3
        cases q3
        cases q6
    · obtain ⟨og, es, ep, e, d, _⟩ := hns
      rw [z, eT] at e
      cases e
      cases d
  have e0 : Env0 P w K mg base callerA [] s1 H :=
    { frames := rfl, mod := ⟨hK, names hns, ⟨mb, names hb, hbb⟩, lim⟩, bs := fun b o e => of_hidT e, bsz := Nat.le_of_eq (hidT_size _ _), funs := trivial, frf := fun b hb => (List.not_mem_nil hb).elim, hok := hok, bare := .of_eq hg }
  refine codeAny_mono (F base hK (names hns) TB (let ⟨m, z⟩ := hsy; ⟨m, names z⟩) callerA [] s1 H [.ref a] [.ref a] _ _ hr rfl e0 (.cons rfl .nil) hsp) fun r s' h => ?_
  cases r with
  | error e => exact False.elim h
  | ok fl =>
    cases fl with
    | next => exact False.elim h
    | brk => exact False.elim h
    | cont => exact False.elim h
    | ret u =>
      obtain ⟨v, H2, os, bare, un, ok2, rv, q⟩ := h
      subst q
      cases rv
      have still : ∀ b o, b ≠ T → s1.heap.get? b = some o → s'.heap.get? b = some o := fun b o nb e => by
        rcases B.rest b nb with z | ⟨o2, xs, items, n, z, _⟩
        · exact un.keep b o e z (fun y => List.not_mem_nil y) (fun y => List.not_mem_nil y)
        · have e1 := (hok b _ z).1
          have e2 := (ok2 b _ (un.frzs b o2 _ z)).1
          rw [e] at e1
          cases e1
          exact e2
      obtain ⟨more, z⟩ := un.tbls T #[] B.tab
      have wide := ok2 T _ z
      refine ⟨rfl, ⟨fun b o e => ?_, fun b o e => ?_⟩, os, bare⟩
      · by_cases q : b = T
        · subst q
          rw [eT] at e
          cases e
          exact .inr (.inl ⟨(cT.tab eT).isCodeTable, rfl, #[], _, rfl, by rw [Array.empty_append]; exact wide⟩)
        · exact .inl (still b o q e)
      · by_cases q : b = T
        · subst q
          exact ⟨_, wide⟩
        · exact ⟨o, still b o q e⟩
theorem end_callTB (KX : K.In s1.heap) (hns : s1.heap.Ns mainGlobals mg) (hb : s1.heap.Ns builtinsNs mb) (hbb : ∀ x : Str, x ≠ "__name__" → mb x = bootBuiltins x) (hlim : s1.heap.NoLimit) (hsy : SysB s1.heap) (hg : s1.gens = #[]) (hr : Room k callerA)
    (eT : s1.heap.get? T = some tab0) (nT : K.lookup T = none) (cT : PySem.W.CodeHd s1.heap c T)
    (main : ∃ (m : Addr) (o : Obj), mg "__builtins__" = some (.ref m) ∧ m ≠ builtinsNs ∧ s1.heap.get? m = some o ∧ o.cls = .type "module" ∧ o.dict = some builtinsNs ∧ o.data = .plain)
    (ha : s1.heap.get? a = some { cls := .type "list", data := .seq vs.toArray }) (hi : IntsAre vs ns) (hl : ns.length ≤ sizeLine) (F : ∀ base : Heap, K.In base → base.Ns mainGlobals mg → LamX.TabB base mg c T → SysB base → FnG P w K mg base CX0 k fa sp)
    (hsp : ∀ H : Hp, H T = some (.tbl #[]) → SqL K H a (ns.map V.int) → sp [.ref a] H (fun v _ => v = .bl true) fun _ _ _ => False) :
    codeAny (model P w) callerA (.call (.ref fa) ⟨[.ref a], []⟩) (fun r s' => r = .ok (.ret (.bool true)) ∧ OldK s1.heap s'.heap ∧ s'.os = s1.os ∧ AllBare s'.gens) s1 := by
  have rv := vals_ints hi
  have hl2 : (ns.map V.int).length ≤ sizeLine := by rw [List.length_map]; exact hl
  have naT : a ≠ T := fun z => by
    rw [z, eT] at ha
    cases ha
  cases hk : K.lookup a with
  | some o =>
    have e := KX a o hk
    rw [ha] at e
    cases e
    let H : Hp := fun b => if b = T then some (.tbl #[]) else none
    have HT : H T = some (.tbl #[]) := if_pos rfl
    have HN : ∀ b, b ≠ T → H b = none := fun b n => if_neg n
    refine end_fromTB KX hns hb hbb hlim hsy hg hr eT nT cT main F (H := H) ⟨HT, fun b n => .inl (HN b n)⟩ (fun b u z => ?_) (hsp H HT ?_)
    · by_cases q : b = T
      · subst q
        rw [HT] at z
        cases z
        exact eT
      · rw [HN b q] at z
        cases z
    · exact .inr ⟨_, vs.toArray, _, hk, rfl, rfl, rfl, by rw [List.size_toArray, hi.length]; exact hl, by simpa using rv⟩
  | none =>
    let o : Obj := { cls := .type "list", data := .seq vs.toArray }
    let H : Hp := fun b => if b = a then some (.frz o (.lst (ns.map V.int))) else if b = T then some (.tbl #[]) else none
    have HA : H a = some (.frz o (.lst (ns.map V.int))) := if_pos rfl
    have HT : H T = some (.tbl #[]) := by show (if T = a then _ else _) = _; rw [if_neg (Ne.symm naT), if_pos rfl]
    have HN : ∀ b, b ≠ a → b ≠ T → H b = none := fun b n n2 => by show (if b = a then _ else _) = _; rw [if_neg n, if_neg n2]
    refine end_fromTB KX hns hb hbb hlim hsy hg hr eT nT cT main F (H := H) ⟨HT, fun b n => ?_⟩ (fun b u z => ?_) (hsp H HT (.inl (.inr ⟨_, HA⟩)))
    · by_cases q : b = a
      · subst q
        exact .inr ⟨o, _, _, _, HA, hk, ha, rfl⟩
      · exact .inl (HN b q n)
    · by_cases q : b = a
      · subst q
        rw [HA] at z
        cases z
        exact ⟨ha, hl2, vs, _, rv, ha⟩
      · by_cases q2 : b = T
        · subst q2
          rw [HT] at z
          cases z
          exact eT
        · rw [HN b q q2] at z
          cases z
end
/-- what is to be known of the law's promise at the head's heap -/
def LawTB (l : PySem.W.OpenLaw) (w : World) (K : PySem.W.Frag) (k n : Nat) (mg : Str → Option Value) (fa : Addr) (h : Heap) : Prop :=
  ∃ (c T : Addr) (sp : Sp), h.get? T = some tab0 ∧ K.lookup T = none ∧ PySem.W.CodeHd h c T ∧
    (∀ (H : Hp) (a : Addr) (ns : List Int), ns.length ≤ n → H T = some (.tbl #[]) → SqL K H a (ns.map V.int) → sp [.ref a] H (fun v _ => v = .bl true) fun _ _ _ => False) ∧
    ∀ base : Heap, K.In base → base.Ns mainGlobals mg → LamX.TabB base mg c T → SysB base → FnG l.prog w K mg base CX0 k fa sp
theorem walk_ofTGB {l : PySem.W.OpenLaw} {n k : Nat} {q : Program} {loose : List Str} {XP : (Str → Option Value) → Heap → Prop} {YP : World → Heap → Prop} {d : DefRec} {K : Params → PySem.W.Frag}
    (hi : importsNone q = true) (hn : l.most = some n) (hn2 : n ≤ sizeLine) (hdf : d.params.defaults = []) (hr : Room k callerA) (hY : ∀ (w : World) (h : Heap), YP w h → (K w.params).In h)
    (F : ∀ (w : World) (mg : Str → Option Value) (fa : Addr) (h : Heap), YP w h → (K w.params).In h → h.Ns mainGlobals mg → mg d.name = some (.ref fa) → LawTB l w (K w.params) k n mg fa h) :
    PySem.W.WalkO q loose XP YP l.row.toRowW d [] (fun f vs => PySem.call f vs) := by
  refine Att.attach_call hn hdf fun w s0 s1 mg mb fa o pm cd doc a vs ns G Y ho hd hcd hmg hobj hints hlen hg => ?_
  have KX := hY w _ Y
  obtain ⟨c, T, sp, eT, nT, cT, hsp, hF⟩ := F w mg fa _ Y KX G.T.g hmg
  exact end_callTB KX G.T.g G.T.b G.T.builtins G.T.nolimit (let ⟨m, z, _⟩ := (G.T.seer hi).mods; ⟨m, z⟩) hg hr eT nT cT G.T.bmain hobj hints (Nat.le_trans hlen hn2) hF fun H hH hS => hsp H a ns hlen hH hS
end Ow
end
section
set_option maxHeartbeats 4000000
namespace Ow
open PySem PySem.Spec PyProof.Rows L2
section
variable {X : Cx} {CX : CXT} {k : Nat} {C g : Addr} {sp : Sp} {E : XK} {o : Expr} {m : Str} {pos apos : Pos} {ta : TE} {pl : Sem Bool}
/-- o.m(k=e, ..): an instance's method, by keywords alone -/
def tMethK (C : Addr) (m : Str) (n : Nat) (sp : Sp) (gV : List V → List V → List V) (E : XK) (ta : TE) (tk : TA) : TE := fun σ H Q => ta σ H fun x H1 => ∃ a dx fs, x = .ref a ∧ H1 a = some (.ins C dx fs) ∧ fs.lookup m = none ∧ tk σ H1 fun zs H2 => zs.length = n ∧ sp (gV [x] zs) H2 Q E
theorem pe_methK {kws : List Keyword} {fd : FuncData} {ps ks : List Str} {tk : TA} {gl : List Value → List Value → List Value} {gV : List V → List V → List V} (he : PE X o ta) (c : Cls X.K C) (hm : Meth X.K C m g)
    (F : FnOk X.prog X.w X.K X.mg X.base CX k g fd ps sp) (hr : Room k X.A) (hb : KBn X.K fd ps 1 ks gl gV) (hx : Passes CX X E) (hkw : PK X kws tk)
    (hall : (backToKw pos (keywordEach kws X.env)).all (·.1.isSome) = true := by rfl) (hks : (backToKw pos (keywordEach kws X.env)).filterMap (·.1) = ks := by rfl)
    (hpl : ((backTo pos (starEach [] X.env)).any (·.1) || (backToKw pos (keywordEach kws X.env)).any (·.1.isNone)) = false := by rfl)
    (ht : eval (.Call (.Attribute o m apos) [] kws pos) X.env = (do
      let ov ← eval o X.env
      standAt apos.atName
      let (f, first) ← holding [ov] (getMethod ov m pl)
      callWith pos f first (backTo pos (starEach [] X.env)) (backToKw pos (keywordEach kws X.env))) := by rfl) :
    PE X (.Call (.Attribute o m apos) [] kws pos) (tMethK C m ks.length sp gV E ta tk) := by
  refine ⟨fun pins s σ H Q I h => ?_⟩
  refine PySem.W.methodCall_KW (pl := pl) (thn (he.run pins s σ H _ I h) fun u s1 ⟨x, H1, I1, rx, a, dx, fs, ex, ea, l, q⟩ => ?_) ht
  subst ex
  obtain rfl : u = Value.ref a := rx
  refine getmeth_ok I1 ea c hm l ?_
  refine PySem.W.callWith_KW0 (h₀ := X.base) I.ok.mod.kin hm.kp hall ?_ hpl
  refine thn (hkw.run pos pins s1 σ H1 _ I1 q) fun ws s3 ⟨zs, H3, I3, rz, l2, q2⟩ => ⟨I3.kIn, ?_⟩
  rw [hks]
  have r1 : Vals [V.ref a] [Value.ref a] := .cons rfl .nil
  refine wpAny_call (codeAny_mono (F.run X.A X.stack s3 H3 ⟨[.ref a], ks.zip ws⟩ (gl [.ref a] ws) (gV [.ref a] zs) Q E hr I3.env0 (hb.to s3 [.ref a] ws I3.kIn rfl (rz.length.symm.trans l2)) (hb.rel r1 rz) q2) fun r s' hq => ?_)
  cases r with
  | error e => exact hx pins σ H3 s3 e s' I3 hq
  | ok fl =>
    cases fl with
    | ret u => exact I3.after hq
    | next => exact False.elim hq
    | brk => exact False.elim hq
    | cont => exact False.elim hq
end
end Ow
end
section
set_option maxHeartbeats 4000000
/-! range(a, b) for any two integers. -/
namespace Ow
open PySem PySem.Spec PyProof.Rows L2
theorem long_self {prog : Program} {w : World} {A : Around} {E : Value → Shared → Prop} {s : Shared} {it : Addr} {x left step : Int} {Q : Value → Shared → Prop} (hit : IsLongIter s.heap it x left step) (h : Q (.ref it) s) : wpAny (model prog w) A (pyIter (.ref it)) Q E s := by
  have hT : s.TypeIs (.ref it) "longrange_iterator" := ⟨_, hit, rfl⟩
  refine wpAny_pyIter_slot hT F.slot_longrange_iterator_iter (wpAny_call_entry F.slot_longrange_iterator_iter hT F.entry_longrange_iterator_iter ?_ (F.args_longrange_iterator_iter_1 (.ref it)))
  exact wpAny_pure ⟨.ref it, rfl, "longrange_iterator", .builtin "longrange_iterator.__next__", hT, F.slot_longrange_iterator_next.lookup, h⟩
theorem turn_long {P : Program} {w : World} {K : PySem.W.Frag} {tg : Expr} (it : Addr) (lo : Int) (n : Nat) : Turn P w K tg (Itr lo n) [it] it fun i h => i ≤ n ∧ IsLongIter h it (lo + (i : Nat) * 1) ((n : Int) - (i : Nat)) 1 where
  mem := by simp
  obj := fun i h st b hb => by
    have e : b = it := by simpa using hb
    subst e
    exact ⟨_, st.2, fun v z => by cases z⟩
  keep := fun i h h' st k => ⟨st.1, k it (by simp) _ st.2⟩
  item := by
    intro X hP hw hK hc i pins s σ H E I hf st hg
    subst hP hw
    obtain ⟨f0, f1, f2, f3, f4, f5⟩ := hf it (by simp)
    have W := Walks.longrange (prog := X.prog) (w := X.w) (I.ok.hd hc) it lo 1 n
    have hlt : i < n := hg
    refine W.item i s _ E hlt st.2 fun v h' tk hv st' kk => ?_
    obtain ⟨t, rfl⟩ := hv
    have I1 := I.turned (t' := tk) (h' := h') (it := it) (fun b o hb e => kk b o (by simpa using hb) e) f0 f1 f3 f4 f5
    refine ⟨.int (lo + (i : Nat) * 1) t, rfl, go_of st' rfl rfl (by decide) ?_⟩
    exact ⟨.int (lo + (i : Nat)), H, I1, ⟨t, by rw [Int.mul_one]⟩, ⟨rfl, rfl⟩, ⟨hlt, st'⟩, fun b hb => (hf b hb).1⟩
  done := by
    intro X hP hw hK hc i pins s σ H E I hf st hg
    subst hP hw
    obtain ⟨f0, f1, f2, f3, f4, f5⟩ := hf it (by simp)
    have W := Walks.longrange (prog := X.prog) (w := X.w) (I.ok.hd hc) it lo 1 n
    have hle : n ≤ i := hg
    obtain ⟨h1, h2⟩ := st
    have e : i = n := by omega
    subst e
    exact W.done s _ E h2 fun h' tk kk => ⟨rfl, I.turned (fun b o hb e => kk b o (by simpa using hb) e) f0 f1 f3 f4 f5⟩
  self := fun A i s Q E st h => long_self st.2 h
theorem size_nat (i j : Int) : Builtin.Range.rangeSize i j 1 = ((j - i).toNat : Int) := by
  rw [rangeSize_one]
  split <;> omega
def iRng2L (ta : TA) : TI := fun σ H R => ta σ H fun vs H1 => ∃ i j : Int, vs = [.int i, .int j] ∧ R (Itr i (j - i).toNat) H1
theorem pi_range2L {X : Cx} {tg a b : Expr} {ta : TA} {p pos : Pos} (hg : Gl X "range") (hm : X.mg "range" = none) (ha : PA X [a, b] ta) (hs : starEach [a, b] X.env = [(false, eval a X.env), (false, eval b X.env)] := by rfl) (hs2 : starEach [b] X.env = [(false, eval b X.env)] := by rfl) :
    PI X tg (.Call (.Name "range" p) [a, b] [] pos) (iRng2L ta) := by
  refine ⟨fun pins s σ H R I h => ?_⟩
  refine Call_ (ld_blt I hg hm boot_range (PyProof.Rows.callWith_type1 (thn (ha.run pos pins s σ H _ I h) fun us s1 ⟨vs, H1, I1, r1, i, j, ex, q⟩ => ?_) (by rw [hs, hs2]) (by rw [hs2]; rfl)))
  subst ex
  obtain ⟨u, u2, rfl, ru, ru2⟩ := vals2 r1
  obtain ⟨t, rfl⟩ := ru
  obtain ⟨t', rfl⟩ := ru2
  refine call_range_2 ?_
  have I2 := I1.kept (h' := s1.heap.push { cls := .type "range", data := .fields #[.int i t, .int j t', .int 1 s1.toks] }) (t' := s1.toks + 1) fun b o e => Heap.get?_push_of_some _ e
  have new := IsRange.new s1.heap i j 1 t t' s1.toks
  cases hz : Builtin.Range.small i j 1 with
  | true =>
    refine wpAny_pyIter_range new hz ?_
    rw [size_nat]
    refine pi_one I2 _ (turn_range _ i _) ?_ q
    have e := Heap.get?_push_size (s1.heap.push { cls := .type "range", data := .fields #[.int i t, .int j t', .int 1 s1.toks] }) (o := { cls := .type "range_iterator", data := .fields #[rawInt i, rawInt ((j - i).toNat : Int), rawInt 1] }) rfl
    simpa using e
  | false =>
    refine wpAny_pyIter_longrange new hz ?_
    rw [size_nat]
    refine pi_one I2 _ (turn_long _ i _) ?_ q
    have e := Heap.get?_push_size (s1.heap.push { cls := .type "range", data := .fields #[.int i t, .int j t', .int 1 s1.toks] }) (o := { cls := .type "longrange_iterator", data := .fields #[rawInt i, rawInt ((j - i).toNat : Int), rawInt 1] }) rfl
    exact ⟨Nat.zero_le _, by simpa using e⟩
end Ow
end
section
set_option maxHeartbeats 4000000
/-! The end of a law of which several defs hand lambdas over: a table for each of them. -/
namespace Ow
open PySem PySem.Spec PyProof.Rows L2 StX
section
variable {P : Program} {w : World} {K : PySem.W.Frag} {mg mb : Str → Option Value} {k : Nat} {fa a : Addr} {TL : List (Addr × Addr)} {sp : Sp} {s1 : Shared} {vs : List Value} {ns : List Int}
/-- what is known of the codes' tables ahead of the call -/
structure TabsAt (K : PySem.W.Frag) (h : Heap) (TL : List (Addr × Addr)) : Prop where
  at_ : ∀ p ∈ TL, h.get? p.2 = some tab0
  no : ∀ p ∈ TL, K.lookup p.2 = none
  cd : ∀ p ∈ TL, PySem.W.CodeHd h p.1 p.2
/-- what stands in the abstract heap at the begin: the tables, and perhaps the script -/
structure BeginL (K : PySem.W.Frag) (h : Heap) (TL : List (Addr × Addr)) (H : Hp) : Prop where
  tab : ∀ p ∈ TL, H p.2 = some (.tbl #[])
  rest : ∀ b, (∀ p ∈ TL, b ≠ p.2) → H b = none ∨ ∃ o xs items n, H b = some (.frz o (.lst xs)) ∧ K.lookup b = none ∧ h.get? b = some o ∧ o.data = .seq items n
theorem end_fromL (KX : K.In s1.heap) (hns : s1.heap.Ns mainGlobals mg) (hb : s1.heap.Ns builtinsNs mb) (hbb : ∀ x : Str, x ≠ "__name__" → mb x = bootBuiltins x) (hlim : s1.heap.NoLimit) (hsy : SysB s1.heap) (hg : s1.gens = #[]) (hr : Room k callerA)
    (tt : TabsAt K s1.heap TL)
    (main : ∃ (m : Addr) (o : Obj), mg "__builtins__" = some (.ref m) ∧ m ≠ builtinsNs ∧ s1.heap.get? m = some o ∧ o.cls = .type "module" ∧ o.dict = some builtinsNs ∧ o.data = .plain)
    (F : ∀ base : Heap, K.In base → base.Ns mainGlobals mg → (∀ p ∈ TL, LamX.TabB base mg p.1 p.2) → SysB base → FnG P w K mg base CX0 k fa sp) {H : Hp} (B : BeginL K s1.heap TL H) (hok : HOk P w H s1.heap)
    (hsp : sp [.ref a] H (fun v _ => v = .bl true) fun _ _ _ => False) :
    codeAny (model P w) callerA (.call (.ref fa) ⟨[.ref a], []⟩) (fun r s' => r = .ok (.ret (.bool true)) ∧ OldK s1.heap s'.heap ∧ s'.os = s1.os ∧ AllBare s'.gens) s1 := by
  let base := hidT s1.heap H
  have free : ∀ {b : Addr} {o : Obj}, s1.heap.get? b = some o → (∀ items n, o.data ≠ .seq items n) → o.data ≠ .fields #[] → base.get? b = some o := fun {b o} e d1 d2 => by
    refine hidT_get e ?_
    by_cases q : ∃ p ∈ TL, b = p.2
    · obtain ⟨p, hp, rfl⟩ := q
      rw [tt.at_ p hp] at e
      cases e
      exact (d2 rfl).elim
    · rcases B.rest b (fun p hp z => q ⟨p, hp, z⟩) with z | ⟨o2, xs, items, n, _, _, e2, z⟩
      · exact z
      · rw [e] at e2
        cases e2
        exact (d1 _ _ z).elim
  have names : ∀ {b : Addr} {m : Str → Option Value}, s1.heap.Ns b m → base.Ns b m := fun z => by
    obtain ⟨o, es, ep, e, d, r⟩ := z
    exact ⟨o, es, ep, free e (fun _ _ y => by rw [d] at y; cases y) (fun y => by rw [d] at y; cases y), d, r⟩
  have hK : K.In base := fun b o e => by
    refine hidT_get (KX b o e) ?_
    by_cases q : ∃ p ∈ TL, b = p.2
    · obtain ⟨p, hp, rfl⟩ := q
      rw [tt.no p hp] at e
      cases e
    · rcases B.rest b (fun p hp z => q ⟨p, hp, z⟩) with z | ⟨o2, xs, items, n, _, z, _⟩
      · exact z
      · rw [e] at z
        cases z
  have lim : base.NoLimit := by
    obtain ⟨m, h1, h2⟩ := hlim
    exact ⟨m, names h1, h2⟩
  have TB : ∀ p ∈ TL, LamX.TabB base mg p.1 p.2 := fun p hp => by
    have eT := tt.at_ p hp
    refine ⟨?_, ?_, fun z => ?_⟩
    · obtain ⟨o, us, file, tf, flags, tg, inF, text, tx, e1, p1, p2, p3, p4, p5, p6, p7, p8, p9⟩ := tt.cd p hp
      exact ⟨o, us, file, tf, flags, tg, inF, text, tx, free e1 (fun _ _ y => by rw [p2] at y; cases y) (fun y => by rw [p2] at y; cases y; simp at p3), p1, p2, p3, p4, p5, p6, p7, p8, p9⟩
    · obtain ⟨m, o, q1, q2, q3, q4, q5, q6⟩ := main
      refine ⟨m, o, q1, q2, fun y => ?_, fun y => ?_, free q3 (fun _ _ y => by rw [q6] at y; cases y) (fun y => by rw [q6] at y; cases y), q4, q5, q6⟩
      · obtain ⟨og, es, ep, e, d, _⟩ := hns
        rw [y, e] at q3
        cases q3
        rw [q6] at d
        cases d
      · rw [y, eT] at q3
        cases q3
        cases q6
    · obtain ⟨og, es, ep, e, d, _⟩ := hns
      rw [z, eT] at e
      cases e
      cases d
  have e0 : Env0 P w K mg base callerA [] s1 H :=
    { frames := rfl, mod := ⟨hK, names hns, ⟨mb, names hb, hbb⟩, lim⟩, bs := fun b o e => of_hidT e, bsz := Nat.le_of_eq (hidT_size _ _), funs := trivial, frf := fun b hb => (List.not_mem_nil hb).elim, hok := hok, bare := .of_eq hg }
  refine codeAny_mono (F base hK (names hns) TB (let ⟨m, z⟩ := hsy; ⟨m, names z⟩) callerA [] s1 H [.ref a] [.ref a] _ _ hr rfl e0 (.cons rfl .nil) hsp) fun r s' h => ?_
  cases r with
  | error e => exact False.elim h
  | ok fl =>
    cases fl with
    | next => exact False.elim h
    | brk => exact False.elim h
    | cont => exact False.elim h
    | ret u =>
      obtain ⟨v, H2, os, bare, un, ok2, rv, q⟩ := h
      subst q
      cases rv
      have still : ∀ b o, (∀ p ∈ TL, b ≠ p.2) → s1.heap.get? b = some o → s'.heap.get? b = some o := fun b o nb e => by
        rcases B.rest b nb with z | ⟨o2, xs, items, n, z, _⟩
        · exact un.keep b o e z (fun y => List.not_mem_nil y) (fun y => List.not_mem_nil y)
        · have e1 := (hok b _ z).1
          have e2 := (ok2 b _ (un.frzs b o2 _ z)).1
          rw [e] at e1
          cases e1
          exact e2
      refine ⟨rfl, ⟨fun b o e => ?_, fun b o e => ?_⟩, os, bare⟩
      · by_cases q : ∃ p ∈ TL, b = p.2
        · obtain ⟨p, hp, rfl⟩ := q
          obtain ⟨more, z⟩ := un.tbls p.2 #[] (B.tab p hp)
          have wide := ok2 p.2 _ z
          have eT := tt.at_ p hp
          rw [eT] at e
          cases e
          exact .inr (.inl ⟨((tt.cd p hp).tab eT).isCodeTable, rfl, #[], _, rfl, by rw [Array.empty_append]; exact wide⟩)
        · exact .inl (still b o (fun p hp z => q ⟨p, hp, z⟩) e)
      · by_cases q : ∃ p ∈ TL, b = p.2
        · obtain ⟨p, hp, rfl⟩ := q
          obtain ⟨more, z⟩ := un.tbls p.2 #[] (B.tab p hp)
          exact ⟨_, ok2 p.2 _ z⟩
        · exact ⟨o, still b o (fun p hp z => q ⟨p, hp, z⟩) e⟩
theorem end_callL (KX : K.In s1.heap) (hns : s1.heap.Ns mainGlobals mg) (hb : s1.heap.Ns builtinsNs mb) (hbb : ∀ x : Str, x ≠ "__name__" → mb x = bootBuiltins x) (hlim : s1.heap.NoLimit) (hsy : SysB s1.heap) (hg : s1.gens = #[]) (hr : Room k callerA)
    (tt : TabsAt K s1.heap TL)
    (main : ∃ (m : Addr) (o : Obj), mg "__builtins__" = some (.ref m) ∧ m ≠ builtinsNs ∧ s1.heap.get? m = some o ∧ o.cls = .type "module" ∧ o.dict = some builtinsNs ∧ o.data = .plain)
    (ha : s1.heap.get? a = some { cls := .type "list", data := .seq vs.toArray }) (hi : IntsAre vs ns) (hl : ns.length ≤ sizeLine) (F : ∀ base : Heap, K.In base → base.Ns mainGlobals mg → (∀ p ∈ TL, LamX.TabB base mg p.1 p.2) → SysB base → FnG P w K mg base CX0 k fa sp)
    (hsp : ∀ H : Hp, (∀ p ∈ TL, H p.2 = some (.tbl #[])) → SqL K H a (ns.map V.int) → sp [.ref a] H (fun v _ => v = .bl true) fun _ _ _ => False) :
    codeAny (model P w) callerA (.call (.ref fa) ⟨[.ref a], []⟩) (fun r s' => r = .ok (.ret (.bool true)) ∧ OldK s1.heap s'.heap ∧ s'.os = s1.os ∧ AllBare s'.gens) s1 := by
  have rv := vals_ints hi
  have hl2 : (ns.map V.int).length ≤ sizeLine := by rw [List.length_map]; exact hl
  have naT : ∀ p ∈ TL, a ≠ p.2 := fun p hp z => by
    rw [z, tt.at_ p hp] at ha
    cases ha
  cases hk : K.lookup a with
  | some o =>
    have e := KX a o hk
    rw [ha] at e
    cases e
    let H : Hp := fun b => if b ∈ TL.map Prod.snd then some (.tbl #[]) else none
    have HT : ∀ p ∈ TL, H p.2 = some (.tbl #[]) := fun p hp => if_pos (List.mem_map_of_mem hp)
    have HN : ∀ b, (∀ p ∈ TL, b ≠ p.2) → H b = none := fun b n => if_neg fun z => by
      obtain ⟨p, hp, e⟩ := List.mem_map.mp z
      exact n p hp e.symm
    refine end_fromL KX hns hb hbb hlim hsy hg hr tt main F (H := H) ⟨HT, fun b n => .inl (HN b n)⟩ (fun b u z => ?_) (hsp H HT ?_)
    · by_cases q : ∃ p ∈ TL, b = p.2
      · obtain ⟨p, hp, rfl⟩ := q
        rw [HT p hp] at z
        cases z
        exact tt.at_ p hp
      · rw [HN b fun p hp y => q ⟨p, hp, y⟩] at z
        cases z
    · exact .inr ⟨_, vs.toArray, _, hk, rfl, rfl, rfl, by rw [List.size_toArray, hi.length]; exact hl, by simpa using rv⟩
  | none =>
    let o : Obj := { cls := .type "list", data := .seq vs.toArray }
    let H : Hp := fun b => if b = a then some (.frz o (.lst (ns.map V.int))) else if b ∈ TL.map Prod.snd then some (.tbl #[]) else none
    have HA : H a = some (.frz o (.lst (ns.map V.int))) := if_pos rfl
    have HT : ∀ p ∈ TL, H p.2 = some (.tbl #[]) := fun p hp => by show (if p.2 = a then _ else _) = _; rw [if_neg (Ne.symm (naT p hp)), if_pos (List.mem_map_of_mem hp)]
    have HN : ∀ b, b ≠ a → (∀ p ∈ TL, b ≠ p.2) → H b = none := fun b n n2 => by
      show (if b = a then _ else _) = _
      rw [if_neg n, if_neg fun z => by
        obtain ⟨p, hp, e⟩ := List.mem_map.mp z
        exact n2 p hp e.symm]
    refine end_fromL KX hns hb hbb hlim hsy hg hr tt main F (H := H) ⟨HT, fun b n => ?_⟩ (fun b u z => ?_) (hsp H HT (.inl (.inr ⟨_, HA⟩)))
    · by_cases q : b = a
      · subst q
        exact .inr ⟨o, _, _, _, HA, hk, ha, rfl⟩
      · exact .inl (HN b q n)
    · by_cases q : b = a
      · subst q
        rw [HA] at z
        cases z
        exact ⟨ha, hl2, vs, _, rv, ha⟩
      · by_cases q2 : ∃ p ∈ TL, b = p.2
        · obtain ⟨p, hp, rfl⟩ := q2
          rw [HT p hp] at z
          cases z
          exact tt.at_ p hp
        · rw [HN b q fun p hp y => q2 ⟨p, hp, y⟩] at z
          cases z
end
/-- what is to be known of the law's promise at the head's heap -/
def LawTL (l : PySem.W.OpenLaw) (w : World) (K : PySem.W.Frag) (k n : Nat) (mg : Str → Option Value) (fa : Addr) (h : Heap) : Prop :=
  ∃ (TL : List (Addr × Addr)) (sp : Sp), TabsAt K h TL ∧
    (∀ (H : Hp) (a : Addr) (ns : List Int), ns.length ≤ n → (∀ p ∈ TL, H p.2 = some (.tbl #[])) → SqL K H a (ns.map V.int) → sp [.ref a] H (fun v _ => v = .bl true) fun _ _ _ => False) ∧
    ∀ base : Heap, K.In base → base.Ns mainGlobals mg → (∀ p ∈ TL, LamX.TabB base mg p.1 p.2) → SysB base → FnG l.prog w K mg base CX0 k fa sp
theorem walk_ofTL {l : PySem.W.OpenLaw} {n k : Nat} {q : Program} {loose : List Str} {XP : (Str → Option Value) → Heap → Prop} {YP : World → Heap → Prop} {d : DefRec} {K : Params → PySem.W.Frag}
    (hi : importsNone q = true) (hn : l.most = some n) (hn2 : n ≤ sizeLine) (hdf : d.params.defaults = []) (hr : Room k callerA) (hY : ∀ (w : World) (h : Heap), YP w h → (K w.params).In h)
    (F : ∀ (w : World) (mg : Str → Option Value) (fa : Addr) (h : Heap), YP w h → (K w.params).In h → h.Ns mainGlobals mg → mg d.name = some (.ref fa) → LawTL l w (K w.params) k n mg fa h) :
    PySem.W.WalkO q loose XP YP l.row.toRowW d [] (fun f vs => PySem.call f vs) := by
  refine Att.attach_call hn hdf fun w s0 s1 mg mb fa o pm cd doc a vs ns G Y ho hd hcd hmg hobj hints hlen hg => ?_
  have KX := hY w _ Y
  obtain ⟨TL, sp, tt, hsp, hF⟩ := F w mg fa _ Y KX G.T.g hmg
  exact end_callL KX G.T.g G.T.b G.T.builtins G.T.nolimit (let ⟨m, z, _⟩ := (G.T.seer hi).mods; ⟨m, z⟩) hg hr tt G.T.bmain hobj hints (Nat.le_trans hlen hn2) hF fun H hH hS => hsp H a ns hlen hH hS
end Ow
end
section
set_option maxHeartbeats 4000000
/-! zip of two or three texts. -/
namespace Ow
open PySem PySem.Spec PyProof.Rows L2
/-- a walk whose items are new tuples with a known content -/
def ItZ (n : Nat) (f : Nat → List V) : It := ⟨fun i _ => i < n, fun i H v H' => ∃ T, v = .ref T ∧ H T = none ∧ H' = upd H T (.tup (f i)), fun i _ => n ≤ i⟩
theorem turn_walksT {P : Program} {w : World} {K : PySem.W.Frag} {elts : List Expr} {kk : Nat} {tpos : Pos} {I : Addr} {fp wr : List Addr} {n : Nat} {Pt : Nat → Array Value → Prop} {St : Nat → Heap → Prop} {Mid : Nat → Addr → Heap → Prop} {f : Nat → List V}
    (W : ∀ A : Around, A.in1.handled = none → WalksT P w A I fp wr n Pt St Mid) (hI : I ∈ fp) (hob : ∀ i h, St i h → ∀ b ∈ fp, ∃ o, h.get? b = some o ∧ ∀ v, o.data ≠ .cell v)
    (hPt : ∀ i vals, Pt i vals → Vals (f i) vals.toList ∧ (f i).length ≤ sizeLine) (hself : ∀ (A : Around) (i : Nat) (s : Shared) (Q E : Value → Shared → Prop), St i s.heap → Q (.ref I) s → wpAny (model P w) A (pyIter (.ref I)) Q E s) :
    Turn P w K (.Tuple elts kk tpos) (ItZ n f) fp I (fun i h => i ≤ n ∧ St i h) where
  mem := hI
  obj := fun i h st b hb => hob i h st.2 b hb
  keep := fun i h h' st k => by
    have W0 := W { callerA with handled := none } rfl
    exact ⟨st.1, W0.frame i h h' st.2 k⟩
  item := by
    intro X hP hw hK hc i pins s σ H E J hf st hg
    subst hP hw
    have W1 := W X.A (J.ok.hd hc)
    have hlt : i < n := hg
    have hlive : ∀ b ∈ fp, b < s.heap.objs.size := fun b hb => by
      obtain ⟨o, ho, _⟩ := hob i _ st.2 b hb
      exact Heap.lt_size ho
    refine W1.item i s _ E hlt st.2 fun T vals h' tk hp hT ht mid kk1 => ?_
    refine ⟨.ref T, rfl, W1.go elts kk tpos i T _ _ E mid fun h'' st'' kk2 => ?_⟩
    have nw : ∀ b, b ∉ fp → b ∉ wr := fun b hb z => hb (W1.sub b z)
    obtain ⟨rv, hl⟩ := hPt i vals hp
    obtain ⟨oT, h1, h2, h3, h4⟩ := ht
    have ht2 : h''.get? T = some oT := kk2 T oT (W1.apart i T _ mid) h1
    have new : ObjOk X.prog X.w (upd H T (.tup (f i))) h'' T (.tup (f i)) := ⟨hl, vals.toList, rv, ⟨oT, ht2, h2, h3, by simpa using h4⟩⟩
    have J1 : Inv X pins σ (upd H T (.tup (f i))) { s with heap := h'', toks := tk } :=
      J.turnedNew (ch := fp) (fun b o hb q => kk2 b o (nw b hb) (kk1 b o (nw b hb) q)) hf hT new
    exact ⟨.ref T, _, J1, rfl, ⟨T, rfl, J.hok.fresh hT, rfl⟩, ⟨hlt, st''⟩, fun b hb => by
      rw [upd_ne (Nat.ne_of_lt (Nat.lt_of_lt_of_le (hlive b hb) hT))]
      exact (hf b hb).1⟩
  done := by
    intro X hP hw hK hc i pins s σ H E J hf st hg
    subst hP hw
    have W1 := W X.A (J.ok.hd hc)
    have hle : n ≤ i := hg
    obtain ⟨h1, h2⟩ := st
    have e : i = n := by omega
    subst e
    exact W1.done s _ E h2 fun h' tk kk => ⟨rfl, J.turnedL (ch := fp) (fun b o hb q => kk b o (fun z => hb (W1.sub b z)) q) hf⟩
  self := fun A i s Q E st h => hself A i s Q E st.2 h
/-- the signs of texts at an index -/
def sgn (x : Str) (i : Nat) : V := .str ⟨#[x.cps.toList.getD i 0]⟩
def iZipS (ta : TA) : TI := fun σ H R => ta σ H fun vs H1 => ∃ x y : Str, vs = [.str x, .str y] ∧ R (ItZ (min x.cps.size y.cps.size) fun i => [sgn x i, sgn y i]) H1
def iZipS3 (ta : TA) : TI := fun σ H R => ta σ H fun vs H1 => ∃ x y z : Str, vs = [.str x, .str y, .str z] ∧ R (ItZ (min (min x.cps.size y.cps.size) z.cps.size) fun i => [sgn x i, sgn y i, sgn z i]) H1
theorem sgn_rel {x : Str} {i : Nat} {v : Value} (h : ∃ c u, x.cps[i]? = some c ∧ v = .str ⟨#[c]⟩ u) : RelV (sgn x i) v := by
  obtain ⟨c, u, h1, rfl⟩ := h
  refine ⟨u, ?_⟩
  have e : x.cps.toList.getD i 0 = c := by rw [List.getD_eq_getElem?_getD, Array.getElem?_toList, h1]; rfl
  rw [e]
theorem stri_ob {h : Heap} {a : Addr} {ty : String} {x : Str} {t : Tok} {i : Nat} (e : h.IsStrIter a ty x t i) : ∃ o, h.get? a = some o ∧ ∀ v, o.data ≠ .cell v := by
  obtain ⟨o, h1, _, h3⟩ := e
  exact ⟨o, h1, fun v z => by rw [h3] at z; cases z⟩
theorem pi_zipS {X : Cx} {e e2 : Expr} {ta : TA} {p pos tpos : Pos} {elts : List Expr} {kk : Nat} (hg : Gl X "zip") (hm : X.mg "zip" = none) (ha : PA X [e, e2] ta) (hs : starEach [e, e2] X.env = [(false, eval e X.env), (false, eval e2 X.env)] := by rfl) (hs2 : starEach [e2] X.env = [(false, eval e2 X.env)] := by rfl) :
    PI X (.Tuple elts kk tpos) (.Call (.Name "zip" p) [e, e2] [] pos) (iZipS ta) := by
  refine ⟨fun pins s σ H R I h => ?_⟩
  refine Call_ (ld_blt I hg hm boot_zip (PyProof.Rows.callWith_type1 (thn (ha.run pos pins s σ H _ I h) fun us s1 ⟨vs, H1, I1, r1, x, y, ex, q⟩ => ?_) (by rw [hs, hs2]) (by rw [hs2]; rfl)))
  subst ex
  obtain ⟨u, u2, rfl, ⟨t1, rfl⟩, ⟨t2, rfl⟩⟩ := vals2 r1
  refine zip_begins2 (begins_text x t1) (begins_text y t2) trivial trivial fun h' hz hTI hTO h1 h2 hsz hk => wpAny_pyIter_zip hz ?_
  have sep : ZipSep2 (s1.heap.objs.size + 4) (s1.heap.objs.size + 2) (s1.heap.objs.size + 3) s1.heap.objs.size (s1.heap.objs.size + 1) [s1.heap.objs.size] [s1.heap.objs.size + 1] := by
    constructor <;> simp <;> omega
  have fp : ∀ b ∈ ((s1.heap.objs.size + 4) :: (s1.heap.objs.size + 2) :: (s1.heap.objs.size + 3) :: ([s1.heap.objs.size] ++ [s1.heap.objs.size + 1])), FpOk X pins H1 b := fun b hb => by
    have hle : s1.heap.objs.size ≤ b := by
      simp only [List.mem_cons, List.mem_append, List.not_mem_nil, or_false] at hb
      omega
    exact I1.fpOk hle (I1.hok.fresh hle)
  refine ⟨s1.heap.objs.size + 4, _, _, _, H1, rfl, I1.kept (t' := s1.toks) hk, turn_walksT (f := fun i => [sgn x i, sgn y i]) (fun A hA => WalksT.zipD2 sep (Draws.text hA s1.heap.objs.size x t1) (Draws.text hA (s1.heap.objs.size + 1) y t2)) (by simp) (fun i h st b hb => ?_) (fun i vals hp => ?_) (fun A i s Q E st hq => wpAny_pyIter_zip st.1 hq), ⟨Nat.zero_le _, hz, hTI, ⟨_, _, hTO⟩, ⟨_, h1, rfl, rfl⟩, ⟨_, h2, rfl, rfl⟩⟩, fp, q⟩
  · obtain ⟨g1, g2, ⟨a1, a2, g3⟩, g4, g5⟩ := st
    simp only [List.mem_cons, List.mem_append, List.not_mem_nil, or_false] at hb
    rcases hb with rfl | rfl | rfl | rfl | rfl
    · exact ⟨_, g1, fun v z => by cases z⟩
    · exact ⟨_, g2, fun v z => by cases z⟩
    · exact ⟨_, g3, fun v z => by cases z⟩
    · exact stri_ob g4
    · exact stri_ob g5
  · obtain ⟨x1, x2, p1, p2, rfl⟩ := hp
    exact ⟨.cons (sgn_rel p1) (.cons (sgn_rel p2) .nil), by show 2 ≤ sizeLine; decide⟩
theorem pi_zipS3 {X : Cx} {e e2 e3 : Expr} {ta : TA} {p pos tpos : Pos} {elts : List Expr} {kk : Nat} (hg : Gl X "zip") (hm : X.mg "zip" = none) (ha : PA X [e, e2, e3] ta) (hs : starEach [e, e2, e3] X.env = [(false, eval e X.env), (false, eval e2 X.env), (false, eval e3 X.env)] := by rfl) (hs2 : starEach [e2, e3] X.env = [(false, eval e2 X.env), (false, eval e3 X.env)] := by rfl) :
    PI X (.Tuple elts kk tpos) (.Call (.Name "zip" p) [e, e2, e3] [] pos) (iZipS3 ta) := by
  refine ⟨fun pins s σ H R I h => ?_⟩
  refine Call_ (ld_blt I hg hm boot_zip (PyProof.Rows.callWith_type1 (thn (ha.run pos pins s σ H _ I h) fun us s1 ⟨vs, H1, I1, r1, x, y, zz, ex, q⟩ => ?_) (by rw [hs, hs2]) (by rw [hs2]; rfl)))
  subst ex
  obtain ⟨u, us2, rfl, ⟨t1, rfl⟩, r2⟩ : ∃ u us2, us = u :: us2 ∧ RelV (.str x) u ∧ Vals [.str y, .str zz] us2 := by
    cases r1 with
    | cons a b => exact ⟨_, _, rfl, a, b⟩
  obtain ⟨u2, u3, rfl, ⟨t2, rfl⟩, ⟨t3, rfl⟩⟩ := vals2 r2
  refine zip_begins3 (begins_text x t1) (begins_text y t2) (begins_text zz t3) trivial trivial trivial fun h' hz hTI hTO h1 h2 h3 hsz hk => wpAny_pyIter_zip hz ?_
  have sep : ZipSep3 (s1.heap.objs.size + 5) (s1.heap.objs.size + 3) (s1.heap.objs.size + 4) s1.heap.objs.size (s1.heap.objs.size + 1) (s1.heap.objs.size + 2) [s1.heap.objs.size] [s1.heap.objs.size + 1] [s1.heap.objs.size + 2] := by
    constructor <;> simp <;> omega
  have fp : ∀ b ∈ ((s1.heap.objs.size + 5) :: (s1.heap.objs.size + 3) :: (s1.heap.objs.size + 4) :: ([s1.heap.objs.size] ++ [s1.heap.objs.size + 1] ++ [s1.heap.objs.size + 2])), FpOk X pins H1 b := fun b hb => by
    have hle : s1.heap.objs.size ≤ b := by
      simp only [List.mem_cons, List.mem_append, List.not_mem_nil, or_false] at hb
      omega
    exact I1.fpOk hle (I1.hok.fresh hle)
  refine ⟨s1.heap.objs.size + 5, _, _, _, H1, rfl, I1.kept (t' := s1.toks) hk, turn_walksT (f := fun i => [sgn x i, sgn y i, sgn zz i]) (fun A hA => WalksT.zipD3 sep (Draws.text hA s1.heap.objs.size x t1) (Draws.text hA (s1.heap.objs.size + 1) y t2) (Draws.text hA (s1.heap.objs.size + 2) zz t3)) (by simp) (fun i h st b hb => ?_) (fun i vals hp => ?_) (fun A i s Q E st hq => wpAny_pyIter_zip st.1 hq), ⟨Nat.zero_le _, hz, hTI, ⟨_, _, _, hTO⟩, ⟨_, h1, rfl, rfl⟩, ⟨_, h2, rfl, rfl⟩, ⟨_, h3, rfl, rfl⟩⟩, fp, q⟩
  · obtain ⟨g1, g2, ⟨a1, a2, a3, g3⟩, g4, g5, g6⟩ := st
    simp only [List.mem_cons, List.mem_append, List.not_mem_nil, or_false] at hb
    rcases hb with rfl | rfl | rfl | (rfl | rfl) | rfl
    · exact ⟨_, g1, fun v z => by cases z⟩
    · exact ⟨_, g2, fun v z => by cases z⟩
    · exact ⟨_, g3, fun v z => by cases z⟩
    · exact stri_ob g4
    · exact stri_ob g5
    · exact stri_ob g6
  · obtain ⟨x1, x2, x3, p1, p2, p3, rfl⟩ := hp
    exact ⟨.cons (sgn_rel p1) (.cons (sgn_rel p2) (.cons (sgn_rel p3) .nil)), by show 3 ≤ sizeLine; decide⟩
/-- as a walk -/
theorem walk_Z {n : Nat} {f : Nat → List V} : Walk (ItZ n f) n (fun _ => True) (fun i H v H' => ∃ T, v = .ref T ∧ H T = none ∧ H' = upd H T (.tup (f i))) := by
  refine ⟨fun i _ hi _ => hi, fun _ _ => Nat.le_refl _, fun i H v H' _ _ y => y⟩
end Ow
end
section
set_option maxHeartbeats 4000000
/-! list(zip(a, b)), a and b tuples. -/
namespace Ow
open PySem PySem.Spec PyProof.Rows L2
section
variable {prog : Program} {w : World} {A : Around} {E : Value → Shared → Prop} {s : Shared} {z TI TO i1 i2 : Addr} {fp1 fp2 : List Addr} {n1 n2 i : Nat} {P1 P2 : Nat → Value → Prop} {St1 St2 : Nat → Heap → Prop} {Q : Value → Shared → Prop}
/-- a zip whose last pair is kept by someone -/
def IsZipH (h : Heap) (z TI TO : Addr) (T : Addr) (b : Bool) : Prop := h.get? z = some { cls := .type "zip", data := .fields #[rawInt (T : Nat), .bool b, .bool false, .ref TI, .ref TO] }
theorem zip_notfree {T : Addr} {b : Bool} {oT : Obj} {K' : Bool → Shared → Prop} (hz : IsZipH s.heap z TI TO T b) (hT : s.heap.get? T = some oT) (k : ∀ h', IsZipH h' z TI TO T true → Heap.SameBut z s.heap h' → K' false { s with heap := h' }) :
    wpAny (model prog w) A (Builtin.SmallTypes.ownedTupleIsFree (.ref z)) K' E s := by
  obtain ⟨hp, g, d, tk0, os⟩ := s
  show wpAny _ _ (field (.ref z) 0 >>= _) _ _ _
  refine wpAny_bind (wpAny_field hz rfl rfl ?_)
  show wpAny _ _ (loadIfAlive T >>= _) _ _ _
  refine wpAny_bind (W.kdx_alive hT ?_)
  show wpAny _ _ (field (.ref z) 1 >>= _) _ _ _
  refine wpAny_bind (wpAny_field hz rfl rfl ?_)
  cases b with
  | true => exact wpAny_pure (k hp hz ⟨rfl, fun _ _ => rfl⟩)
  | false =>
    show wpAny _ _ (setField (.ref z) 1 (.bool true) >>= _) _ _ _
    exact wpAny_bind (wpAny_setField_rec hz (by show 1 < 5; decide) fun g0 hz0 hs0 => wpAny_pure (k g0 hz0 hs0))
theorem zip2_held (S : ZipSep2 z TI TO i1 i2 fp1 fp2) (D1 : Draws prog w A i1 fp1 n1 P1 St1) (D2 : Draws prog w A i2 fp2 n2 P2 St2) {T : Addr} {b : Bool} {oT : Obj} (hz : IsZipH s.heap z TI TO T b) (hT : s.heap.get? T = some oT) (hTI : IsTupOf2 s.heap TI (.ref i1) (.ref i2)) (st1 : St1 i s.heap) (st2 : St2 i s.heap) (lt1 : i < n1) (lt2 : i < n2)
    (hQ : ∀ (x1 x2 : Value) (h' : Heap) (tk : Nat), P1 i x1 → P2 i x2 → IsZipH h' z TI TO T true → St1 (i + 1) h' → St2 (i + 1) h' → IsTupOf2 h' s.heap.objs.size x1 x2 → h'.objs.size = s.heap.objs.size + 1 → (∀ (c : Addr) (o : Obj), c ≠ z → c ≠ i1 → c ≠ i2 → s.heap.get? c = some o → h'.get? c = some o) → Q (.ref s.heap.objs.size) { s with heap := h', toks := tk }) :
    wpAny (model prog w) A (Builtin.«zip.__next__» { pos := [Value.ref z] }) (fun fin s' => ∃ v, fin = Fin.done (Flow.ret v) ∧ Q v s') E s := by
  obtain ⟨hp, g, d, tk0, os⟩ := s
  show wpAny _ _ (field (.ref z) 2 >>= _) _ _ _
  refine wpAny_bind (wpAny_field hz rfl rfl ?_)
  refine wpAny_bind (wpAny_field hz rfl rfl ?_)
  refine wpAny_bind (wpAny_seqItems hTI rfl ?_)
  show wpAny _ _ (Builtin.SmallTypes.ownedTupleIsFree (.ref z) >>= _) _ _ _
  refine wpAny_bind (zip_notfree hz hT fun g0 hz0 hs0 => ?_)
  simp only [Bool.false_eq_true, if_false]
  refine wpAny_bind ?_
  rw [← Array.forIn_toList]
  simp only [List.forIn_cons, List.forIn_nil]
  refine wpAny_bind ?_
  refine wpAny_bind (wpAny_holding ?_)
  show wpAny _ _ (Builtin.SmallTypes.nextOf (.ref i1) >>= _) _ _ _
  refine wpAny_bind (D1.item i _ _ _ lt1 (D1.over st1 hs0 S.zf1) fun x1 p1 tk1 hx1 sn1 hp1 => ?_)
  refine wpAny_pure (wpAny_pure (wpAny_bind (wpAny_bind (wpAny_holding ?_))))
  show wpAny _ _ (Builtin.SmallTypes.nextOf (.ref i2) >>= _) _ _ _
  refine wpAny_bind (D2.item i _ _ _ lt2 (D2.over (D2.over st2 hs0 S.zf2) hp1 S.sep1_2) fun x2 p2 tk2 hx2 sn2 hp2 => ?_)
  refine wpAny_pure (wpAny_pure (wpAny_pure ?_))
  show wpAny _ _ (newTuple [x1, x2] >>= _) _ _ _
  refine wpAny_bind (wpAny_newTuple ?_ (by show 2 ≤ sizeLine; decide))
  have hsz : p2.objs.size = hp.objs.size := by rw [hp2.1, hp1.1, hs0.1]
  have zi1 : z ≠ i1 := fun e => S.zf1 (e ▸ S.mem1)
  have zi2 : z ≠ i2 := fun e => S.zf2 (e ▸ S.mem2)
  have hz2 : p2.get? z = some { cls := .type "zip", data := .fields #[rawInt (T : Nat), .bool true, .bool false, .ref TI, .ref TO] } := hp2.extBut z _ zi2 (hp1.extBut z _ zi1 hz0)
  have j1 := D1.over sn1 hp2 S.sep2_1
  refine wpAny_pure ⟨.ref p2.objs.size, rfl, ?_⟩
  have q := hQ x1 x2 (p2.push { cls := .type "tuple", data := .seq #[x1, x2] }) tk2 hx1 hx2 (Heap.get?_push_of_some _ hz2) (D1.frame (i + 1) p2 _ j1 fun b hb o e => Heap.get?_push_of_some _ e) (D2.frame (i + 1) p2 _ sn2 fun b hb o e => Heap.get?_push_of_some _ e)
    (by show (p2.push _).get? hp.objs.size = _; rw [← hsz]; exact Heap.get?_push_size _ rfl) (by rw [Heap.size_push, hsz]) (fun c o c0 c1 c2 e => Heap.get?_push_of_some _ (hp2.extBut c o c2 (hp1.extBut c o c1 (hs0.extBut c o c0 e))))
  rw [show (Value.ref p2.objs.size) = Value.ref hp.objs.size from by rw [hsz]]
  exact q
theorem zip2_held_end (S : ZipSep2 z TI TO i1 i2 fp1 fp2) (D1 : Draws prog w A i1 fp1 n1 P1 St1) {T : Addr} {b : Bool} {oT : Obj} {R : PySem.Fin → Shared → Prop} (hz : IsZipH s.heap z TI TO T b) (hT : s.heap.get? T = some oT) (hTI : IsTupOf2 s.heap TI (.ref i1) (.ref i2)) (st1 : St1 n1 s.heap)
    (hE : ∀ (h' : Heap) (e : Addr), (∀ (c : Addr) (o : Obj), c ≠ z → c ≠ i1 → s.heap.get? c = some o → h'.get? c = some o) → (∃ o, h'.get? e = some o ∧ o.cls = .type "StopIteration") → E (.ref e) { s with heap := h' }) :
    wpAny (model prog w) A (Builtin.«zip.__next__» { pos := [Value.ref z] }) R E s := by
  obtain ⟨hp, g, d, tk0, os⟩ := s
  show wpAny _ _ (field (.ref z) 2 >>= _) _ _ _
  refine wpAny_bind (wpAny_field hz rfl rfl ?_)
  refine wpAny_bind (wpAny_field hz rfl rfl ?_)
  refine wpAny_bind (wpAny_seqItems hTI rfl ?_)
  show wpAny _ _ (Builtin.SmallTypes.ownedTupleIsFree (.ref z) >>= _) _ _ _
  refine wpAny_bind (zip_notfree hz hT fun g0 hz0 hs0 => ?_)
  simp only [Bool.false_eq_true, if_false]
  refine wpAny_bind ?_
  rw [← Array.forIn_toList]
  simp only [List.forIn_cons, List.forIn_nil]
  refine wpAny_bind ?_
  refine wpAny_bind (wpAny_holding ?_)
  show wpAny _ _ (Builtin.SmallTypes.nextOf (.ref i1) >>= _) _ _ _
  exact wpAny_bind (D1.done _ _ _ (D1.over st1 hs0 S.zf1) fun h' e x h2 => hE h' e (fun c o c0 c1 q => x c o c1 (hs0.extBut c o c0 q)) h2)
end
section
variable {prog : Program} {w : World} {A : Around} {E : Value → Shared → Prop} {s : Shared} {z TI TO i1 i2 : Addr} {fp1 fp2 : List Addr} {n1 n2 i : Nat} {P1 P2 : Nat → Value → Prop} {St1 St2 : Nat → Heap → Prop} {Q : Option Value → Shared → Prop}
theorem pyNext_held (S : ZipSep2 z TI TO i1 i2 fp1 fp2) (D1 : Draws prog w A.in1 i1 fp1 n1 P1 St1) (D2 : Draws prog w A.in1 i2 fp2 n2 P2 St2) {T : Addr} {b : Bool} {oT : Obj} (hz : IsZipH s.heap z TI TO T b) (hT : s.heap.get? T = some oT) (hTI : IsTupOf2 s.heap TI (.ref i1) (.ref i2)) (st1 : St1 i s.heap) (st2 : St2 i s.heap) (lt1 : i < n1) (lt2 : i < n2)
    (hQ : ∀ (x1 x2 : Value) (h' : Heap) (tk : Nat), P1 i x1 → P2 i x2 → IsZipH h' z TI TO T true → St1 (i + 1) h' → St2 (i + 1) h' → IsTupOf2 h' s.heap.objs.size x1 x2 → h'.objs.size = s.heap.objs.size + 1 → (∀ (c : Addr) (o : Obj), c ≠ z → c ≠ i1 → c ≠ i2 → s.heap.get? c = some o → h'.get? c = some o) → Q (some (.ref s.heap.objs.size)) { s with heap := h', toks := tk }) :
    wpAny (model prog w) A (pyNext (.ref z)) Q E s := by
  have ty : s.TypeIs (.ref z) "zip" := ⟨_, hz, rfl⟩
  unfold pyNext
  refine wpAny_bind (wpAny_attempt (wpAny_callSpecial?_slot (name := Str.ofString "__next__") ty F.slot_zip_next (wpAny_call_entry F.slot_zip_next ty F.entry_zip_next ?_ (F.args_zip_next_1 _))))
  refine zip2_held S D1 D2 hz hT hTI st1 st2 lt1 lt2 fun x1 x2 h' tk p1 p2 z1 s1 s2 t1 t2 t3 => ?_
  exact wpAny_pure (hQ x1 x2 h' tk p1 p2 z1 s1 s2 t1 t2 t3)
theorem pyNext_held_end (hh : A.in1.handled = none) (S : ZipSep2 z TI TO i1 i2 fp1 fp2) (D1 : Draws prog w A.in1 i1 fp1 n1 P1 St1) {T : Addr} {b : Bool} {oT : Obj} (hz : IsZipH s.heap z TI TO T b) (hT : s.heap.get? T = some oT) (hTI : IsTupOf2 s.heap TI (.ref i1) (.ref i2)) (st1 : St1 n1 s.heap)
    (hQ : ∀ (h' : Heap), (∀ (c : Addr) (o : Obj), c ≠ z → c ≠ i1 → s.heap.get? c = some o → h'.get? c = some o) → Q none { s with heap := h' }) :
    wpAny (model prog w) A (pyNext (.ref z)) Q E s := by
  have ty : s.TypeIs (.ref z) "zip" := ⟨_, hz, rfl⟩
  unfold pyNext
  refine wpAny_bind (wpAny_attempt (wpAny_callSpecial?_slot (name := Str.ofString "__next__") ty F.slot_zip_next (wpAny_call_entry F.slot_zip_next ty F.entry_zip_next ?_ (F.args_zip_next_1 _))))
  refine zip2_held_end S D1 hz hT hTI st1 fun h' e x hc => ?_
  obtain ⟨o, ho, hc⟩ := hc
  exact wpAny_bind (wpAny_isInstance (T := "StopIteration") (b := true) ⟨o, ho, hc⟩ isSubtype_stop (wpAny_pure (hQ h' x)))
end
end Ow
end
section
set_option maxHeartbeats 4000000
namespace Ow
open PySem PySem.Spec PyProof.Rows L2
section
variable {prog : Program} {w : World} {A : Around} {z TI TO i1 i2 t1 t2 : Addr} {xs ys : Array Value}
/-- a list at S that is being filled with the pairs of a zip: so far those at Ts -/
structure Fill (h0 : Heap) (z TI TO i1 i2 t1 t2 S : Addr) (xs ys : Array Value) (i : Nat) (Ts : List Addr) (h : Heap) : Prop where
  len : Ts.length = i
  lst : ∃ c, h.get? S = some { cls := .type "list", data := .seq (Ts.map Value.ref).toArray c }
  zip : (i = 0 ∧ IsZip h z TI TO .none ∧ ∃ a1 a2, IsTupOf2 h TO a1 a2) ∨ ∃ T b, T ∈ Ts ∧ IsZipH h z TI TO T b
  ti : IsTupOf2 h TI (.ref i1) (.ref i2)
  s1 : h.IsTupleIter i1 t1 i ∧ h.IsTuple t1 xs
  s2 : h.IsTupleIter i2 t2 i ∧ h.IsTuple t2 ys
  at_ : ∀ (j : Nat) (T : Addr), Ts[j]? = some T → ∃ x y, xs[j]? = some x ∧ ys[j]? = some y ∧ IsTupOf2 h T x y
  new : ∀ T ∈ Ts, h0.objs.size ≤ T
  nd : Ts.Nodup
  keep : ∀ b o, h0.get? b = some o → b ≠ z → b ≠ TO → b ≠ i1 → b ≠ i2 → b ≠ S → h.get? b = some o
  size : h0.objs.size ≤ h.objs.size
  lt : ∀ T ∈ Ts, T < h.objs.size
/-- the list is full -/
structure Filled (h0 : Heap) (z TO i1 i2 S : Addr) (xs ys : Array Value) (n : Nat) (Ts : List Addr) (h : Heap) : Prop where
  len : Ts.length = n
  lst : ∃ c, h.get? S = some { cls := .type "list", data := .seq (Ts.map Value.ref).toArray c }
  at_ : ∀ (j : Nat) (T : Addr), Ts[j]? = some T → ∃ x y, xs[j]? = some x ∧ ys[j]? = some y ∧ IsTupOf2 h T x y
  new : ∀ T ∈ Ts, h0.objs.size ≤ T
  nd : Ts.Nodup
  keep : ∀ b o, h0.get? b = some o → b ≠ z → b ≠ TO → b ≠ i1 → b ≠ i2 → b ≠ S → h.get? b = some o
/-- how the parts of a zip stand to each other and to the list -/
structure Parts (h0 : Heap) (z TI TO i1 i2 t1 t2 S : Addr) : Prop where
  sep : ZipSep2 z TI TO i1 i2 [i1, t1] [i2, t2]
  n1 : t1 ≠ i1
  n2 : t2 ≠ i2
  sz : z ≠ S ∧ TI ≠ S ∧ TO ≠ S ∧ i1 ≠ S ∧ i2 ≠ S ∧ t1 ≠ S ∧ t2 ≠ S
  old : z < h0.objs.size ∧ TI < h0.objs.size ∧ TO < h0.objs.size ∧ i1 < h0.objs.size ∧ i2 < h0.objs.size ∧ S < h0.objs.size
theorem Fill.step {h0 h h' : Heap} {S : Addr} {i T : Nat} {Ts : List Addr} {x y : Value} {c : Nat} (J : Fill h0 z TI TO i1 i2 t1 t2 S xs ys i Ts h) (Pt : Parts h0 z TI TO i1 i2 t1 t2 S)
    (hx : xs[i]? = some x) (hy : ys[i]? = some y) (hT : T = h.objs.size) (hz : ∃ T0 b, T0 ∈ Ts ++ [T] ∧ IsZipH h' z TI TO T0 b) (s1 : h'.IsTupleIter i1 t1 (i + 1) ∧ h'.IsTuple t1 xs) (s2 : h'.IsTupleIter i2 t2 (i + 1) ∧ h'.IsTuple t2 ys)
    (ht : IsTupOf2 h' T x y) (hs : h'.objs.size = h.objs.size + 1) (hk : ∀ (c : Addr) (o : Obj), c ≠ z → c ≠ TO → c ≠ i1 → c ≠ i2 → c ≠ S → h.get? c = some o → h'.get? c = some o)
    (hl : h'.get? S = some { cls := .type "list", data := .seq ((Ts ++ [T]).map Value.ref).toArray c }) :
    Fill h0 z TI TO i1 i2 t1 t2 S xs ys (i + 1) (Ts ++ [T]) h' := by
  obtain ⟨o1, o2, o3, o4, o5, o6⟩ := Pt.old
  have big : ∀ T0 ∈ Ts, T0 ≠ z ∧ T0 ≠ TO ∧ T0 ≠ i1 ∧ T0 ≠ i2 ∧ T0 ≠ S := fun T0 hm => by
    have := J.new T0 hm
    exact ⟨Nat.ne_of_gt (Nat.lt_of_lt_of_le o1 this), Nat.ne_of_gt (Nat.lt_of_lt_of_le o3 this), Nat.ne_of_gt (Nat.lt_of_lt_of_le o4 this), Nat.ne_of_gt (Nat.lt_of_lt_of_le o5 this), Nat.ne_of_gt (Nat.lt_of_lt_of_le o6 this)⟩
  refine ⟨by rw [List.length_append, J.len]; rfl, ⟨c, hl⟩, .inr hz, ?_, s1, s2, fun j T0 hj => ?_, fun T0 hm => ?_, ?_, fun b o e a1 a2 a3 a4 a5 => hk b o a1 a2 a3 a4 a5 (J.keep b o e a1 a2 a3 a4 a5), by have := J.size; omega, fun T0 hm => ?_⟩
  · exact hk TI _ Pt.sep.TIz Pt.sep.TITO Pt.sep.TIi1 Pt.sep.TIi2 Pt.sz.2.1 J.ti
  · by_cases hlt : j < Ts.length
    · rw [List.getElem?_append_left hlt] at hj
      obtain ⟨x0, y0, e1, e2, e3⟩ := J.at_ j T0 hj
      obtain ⟨b1, b2, b3, b4, b5⟩ := big T0 (List.mem_of_getElem? hj)
      exact ⟨x0, y0, e1, e2, hk T0 _ b1 b2 b3 b4 b5 e3⟩
    · rw [List.getElem?_append_right (by omega)] at hj
      have hj0 : j - Ts.length = 0 := by
        by_cases q : j - Ts.length = 0
        · exact q
        · rw [List.getElem?_eq_none (by simp; omega)] at hj
          cases hj
      rw [hj0] at hj
      cases hj
      have e : j = i := by have := J.len; omega
      subst e
      exact ⟨x, y, hx, hy, ht⟩
  · rcases List.mem_append.mp hm with h1 | h1
    · exact J.new T0 h1
    · rw [List.mem_singleton.mp h1, hT]
      exact J.size
  · refine List.nodup_append.mpr ⟨J.nd, by simp, fun a ha b hb e => ?_⟩
    rw [List.mem_singleton.mp hb, hT] at e
    exact absurd e (Nat.ne_of_lt (J.lt a ha))
  · rcases List.mem_append.mp hm with h1 | h1
    · exact Nat.lt_of_lt_of_le (J.lt T0 h1) (by rw [hs]; exact Nat.le_succ _)
    · rw [List.mem_singleton.mp h1, hT, hs]
      exact Nat.lt_succ_self _
/-- the loop that fills the list -/
theorem extend_zip {R : Result → Shared → Prop} {h0 : Heap} {S : Addr} {res : Value} {n : Nat} (hh : A.handled = none) (Pt : Parts h0 z TI TO i1 i2 t1 t2 S) (n1 : xs.size = n) (n2 : ys.size = n) (n0 : 0 < n) (hn : n ≤ sizeLine) (g : Array GenState) (d : Drawn) (os : OsState)
    (hR : ∀ (Ts : List Addr) (h' : Heap) (tk : Nat), Filled h0 z TO i1 i2 S xs ys n Ts h' → R (.ok (.ret res)) { heap := h', gens := g, drawn := d, toks := tk, os := os }) :
    ∀ (k i : Nat) (h : Heap) (tk : Nat) (Ts : List Addr), n - i = k → i ≤ n → Fill h0 z TI TO i1 i2 t1 t2 S xs ys i Ts h → codeAny (model prog w) A (.builtin "list.extend.loop" ⟨[.ref S, .ref z, res], []⟩) R { heap := h, gens := g, drawn := d, toks := tk, os := os }
  | 0, i, h, tk, Ts, hk, hi, J => by
    have e : i = n := by omega
    subst e
    obtain ⟨T0, b, hm, hz⟩ : ∃ T b, T ∈ Ts ∧ IsZipH h z TI TO T b := by
      rcases J.zip with ⟨q, _⟩ | q
      · omega
      · exact q
    obtain ⟨j, hj⟩ := List.getElem?_of_mem hm
    obtain ⟨x0, y0, _, _, e3⟩ := J.at_ j T0 hj
    have D1 := Draws.tuple (prog := prog) (w := w) (A := A.in1.in1) hh i1 t1 Pt.n1 xs
    have D2 := Draws.tuple (prog := prog) (w := w) (A := A.in1.in1) hh i2 t2 Pt.n2 ys
    obtain ⟨c, hS⟩ := J.lst
    refine codeAny_builtin F.entry_extend_loop ?_
    rw [Around.under_plainId F.plain_extend_loop _]
    show wpAny _ _ (pyNext (.ref z) >>= _) _ _ _
    refine wpAny_bind (pyNext_held_end (s := { heap := h, gens := g, drawn := d, toks := tk, os := os }) hh Pt.sep D1 hz e3 J.ti (by rw [n1]; exact J.s1) fun h' x => ?_)
    have keepAll : ∀ b o, h.get? b = some o → b ≠ z → b ≠ i1 → h'.get? b = some o := fun b o e a1 a2 => x b o a1 a2 e
    refine wpAny_pure (hR Ts h' tk ?_)
    obtain ⟨o1, o2, o3, o4, o5, o6⟩ := Pt.old
    refine ⟨J.len, ⟨c, keepAll S _ hS (Ne.symm Pt.sz.1) (Ne.symm Pt.sz.2.2.2.1)⟩, fun j T hj => ?_, J.new, J.nd, fun b o e a1 a2 a3 a4 a5 => keepAll b o (J.keep b o e a1 a2 a3 a4 a5) a1 a3⟩
    obtain ⟨x1, y1, q1, q2, q3⟩ := J.at_ j T hj
    have := J.new T (List.mem_of_getElem? hj)
    exact ⟨x1, y1, q1, q2, keepAll T _ q3 (Nat.ne_of_gt (Nat.lt_of_lt_of_le o1 this)) (Nat.ne_of_gt (Nat.lt_of_lt_of_le o4 this))⟩
  | k + 1, i, h, tk, Ts, hk, hi, J => by
    have hlt : i < n := by omega
    obtain ⟨c, hS⟩ := J.lst
    refine codeAny_builtin F.entry_extend_loop ?_
    rw [Around.under_plainId F.plain_extend_loop _]
    show wpAny _ _ (pyNext (.ref z) >>= _) _ _ _
    have D1 := Draws.tuple (prog := prog) (w := w) (A := A.in1.in1) hh i1 t1 Pt.n1 xs
    have D2 := Draws.tuple (prog := prog) (w := w) (A := A.in1.in1) hh i2 t2 Pt.n2 ys
    have next : ∀ (x1 x2 : Value) (h' : Heap) (tk' : Nat), xs[i]? = some x1 → ys[i]? = some x2 → (∃ T0 b, T0 ∈ Ts ++ [h.objs.size] ∧ IsZipH h' z TI TO T0 b) → (h'.IsTupleIter i1 t1 (i + 1) ∧ h'.IsTuple t1 xs) → (h'.IsTupleIter i2 t2 (i + 1) ∧ h'.IsTuple t2 ys) → IsTupOf2 h' h.objs.size x1 x2 → h'.objs.size = h.objs.size + 1 →
        (∀ (c : Addr) (o : Obj), c ≠ z → c ≠ TO → c ≠ i1 → c ≠ i2 → h.get? c = some o → h'.get? c = some o) →
        wpAny (model prog w) A.in1 (do
          Builtin.List.listUpdate (.ref S) fun x_1 => x_1.push (.ref h.objs.size)
          again (Code.builtin "list.extend.loop" ⟨[.ref S, .ref z, res], []⟩)) (fun fin s' => match fin with
          | Fin.done f => R (.ok f) s'
          | Fin.again c' => c'.quiet = true ∧ codeAny (model prog w) A c' R s') (fun e s' => R (.error e) s') { heap := h', gens := g, drawn := d, toks := tk', os := os } := by
      intro x1 x2 h' tk' p1 p2 hz s1 s2 ht hs hk
      have hS' := hk S _ (Ne.symm Pt.sz.1) (Ne.symm Pt.sz.2.2.1) (Ne.symm Pt.sz.2.2.2.1) (Ne.symm Pt.sz.2.2.2.2.1) hS
      refine wpAny_bind (wpAny_updateSeq hS' rfl (wpAny_pure ⟨plainId_quiet F.plain_extend_loop _, ?_⟩) ?_ ?_)
      · have up := fun (b : Addr) (o : Obj) (hb : b ≠ S) (e : h'.get? b = some o) => (Heap.get?_update_other h' (Obj.mapSeq fun x => x.push (.ref h.objs.size)) (Ne.symm hb)).trans e
        refine extend_zip hh Pt n1 n2 n0 hn g d os hR k (i + 1) _ tk' (Ts ++ [h.objs.size]) (by omega) hlt ?_
        have st1 := D1.frame (i + 1) h' (h'.update S (Obj.mapSeq fun x => x.push (.ref h.objs.size))) s1 fun b hb o e => up b o (by
          rcases List.mem_cons.mp hb with rfl | hb
          · exact Pt.sz.2.2.2.1
          · rw [List.mem_singleton.mp hb]; exact Pt.sz.2.2.2.2.2.1) e
        have st2 := D2.frame (i + 1) h' (h'.update S (Obj.mapSeq fun x => x.push (.ref h.objs.size))) s2 fun b hb o e => up b o (by
          rcases List.mem_cons.mp hb with rfl | hb
          · exact Pt.sz.2.2.2.2.1
          · rw [List.mem_singleton.mp hb]; exact Pt.sz.2.2.2.2.2.2) e
        obtain ⟨T0, b, hm, hz⟩ := hz
        have nS : h.objs.size ≠ S := Nat.ne_of_gt (Nat.lt_of_lt_of_le Pt.old.2.2.2.2.2 J.size)
        have hl := Heap.get?_update_self (Obj.mapSeq fun x => x.push (.ref h.objs.size)) hS' rfl
        refine J.step (c := c + 1) Pt p1 p2 rfl ⟨T0, b, hm, up z _ Pt.sz.1 hz⟩ st1 st2 (up _ _ nS ht) (by rw [Heap.size_update]; exact hs) (fun c o c0 c1 c2 c3 c4 e => up c o c4 (hk c o c0 c1 c2 c3 e)) (hl.trans ?_)
        unfold Obj.mapSeq
        simp
      · rw [List.size_toArray, List.length_map, J.len]
        exact Nat.le_trans hi hn
      · rw [Array.size_push, List.size_toArray, List.length_map, J.len]
        exact Nat.succ_le_succ (Nat.le_trans hi hn)
    rcases J.zip with ⟨rfl, hz, a1, a2, hTO⟩ | ⟨T0, b, hm, hz⟩
    · refine wpAny_bind (wpAny_pyNext_zipD2_item (s := { heap := h, gens := g, drawn := d, toks := tk, os := os }) Pt.sep D1 D2 hz J.ti hTO J.s1 J.s2 (by omega) (by omega) fun x1 x2 h' tk' p1 p2 z1 t1' s1 s2 ht hs hk => ?_)
      exact next x1 x2 h' tk' p1 p2 ⟨h.objs.size, false, List.mem_append.mpr (.inr (List.mem_singleton.mpr rfl)), z1⟩ s1 s2 ht hs hk
    · obtain ⟨j, hj⟩ := List.getElem?_of_mem hm
      obtain ⟨x0, y0, _, _, e3⟩ := J.at_ j T0 hj
      refine wpAny_bind (pyNext_held (s := { heap := h, gens := g, drawn := d, toks := tk, os := os }) Pt.sep D1 D2 hz e3 J.ti J.s1 J.s2 (by omega) (by omega) fun x1 x2 h' tk' p1 p2 z1 s1 s2 ht hs hk => ?_)
      exact next x1 x2 h' tk' p1 p2 ⟨T0, true, List.mem_append.mpr (.inl hm), z1⟩ s1 s2 ht hs fun c o c0 c1 c2 c3 e => hk c o c0 c2 c3 e
end
end Ow
end
section
set_option maxHeartbeats 4000000
namespace Ow
open PySem PySem.Spec PyProof.Rows L2
theorem zip_no_len : typeLookup (Value.type "zip") (Str.ofString "__len__") = pure none := by with_unfolding_all rfl
theorem zip_no_hint : typeLookup (Value.type "zip") (Str.ofString "__length_hint__") = pure none := by with_unfolding_all rfl
section
variable {prog : Program} {w : World} {A : Around} {z TI TO i1 i2 t1 t2 : Addr} {xs ys : Array Value}
theorem extendWith_zip {R : Result → Shared → Prop} {h0 : Heap} {S : Addr} {res : Value} {n : Nat} (hh : A.handled = none) (Pt : Parts h0 z TI TO i1 i2 t1 t2 S) (n1 : xs.size = n) (n2 : ys.size = n) (n0 : 0 < n) (hn : n ≤ sizeLine) (g : Array GenState) (d : Drawn) (os : OsState)
    (hR : ∀ (Ts : List Addr) (h' : Heap) (tk : Nat), Filled h0 z TO i1 i2 S xs ys n Ts h' → R (.ok (.ret res)) { heap := h', gens := g, drawn := d, toks := tk, os := os }) (h : Heap) (tk : Nat) (J : Fill h0 z TI TO i1 i2 t1 t2 S xs ys 0 [] h) :
    wpAny (model prog w) A.in1 (Builtin.List.listExtendWith (.ref S) (.ref z) res) (fun fin s' => match fin with
      | Fin.done f => R (.ok f) s'
      | Fin.again c' => c'.quiet = true ∧ codeAny (model prog w) A c' R s') (fun e s' => R (.error e) s') { heap := h, gens := g, drawn := d, toks := tk, os := os } := by
  have hz : IsZip h z TI TO .none := by
    rcases J.zip with ⟨_, q, _⟩ | ⟨T, b, hm, _⟩
    · exact q
    · cases hm
  have ty : ({ heap := h, gens := g, drawn := d, toks := tk, os := os } : Shared).TypeIs (.ref z) "zip" := ⟨_, hz, rfl⟩
  unfold Builtin.List.listExtendWith
  refine wpAny_bind (wpAny_typeOf ty ?_)
  have e1 : (Builtin.List.listSameRef (.ref S) (.ref z) || Value.type "zip" == Value.type "list" || Value.type "zip" == Value.type "tuple") = false := by
    have q : Builtin.List.listSameRef (.ref S) (.ref z) = false := by
      show (S == z) = false
      exact beq_false_of_ne (Ne.symm Pt.sz.1)
    rw [q]
    decide
  rw [if_neg (by rw [e1]; exact Bool.false_ne_true)]
  refine wpAny_bind (wpAny_pyIter_zip hz ?_)
  refine wpAny_bind (wpAny_holding ?_)
  show wpAny _ _ (specialOf (.ref z) (Str.ofString "__len__") >>= _) _ _ _
  refine wpAny_bind (wpAny_specialOf ty zip_no_len ?_)
  show wpAny _ _ (specialOf (.ref z) (Str.ofString "__length_hint__") >>= _) _ _ _
  refine wpAny_bind (wpAny_specialOf ty zip_no_hint (wpAny_pure ?_))
  rw [if_pos (by rfl)]
  refine wpAny_bind (wpAny_rule (wpAny_bind ?_))
  obtain ⟨c, hS⟩ := J.lst
  show wpAny _ _ (updateSeq S (fun x => x.push .none) >>= fun _ => updateSeq S (fun x => x.pop)) _ _ _
  have hS2 := Heap.get?_update_self (Obj.mapSeq fun x => x.push .none) hS rfl
  refine wpAny_bind (wpAny_updateSeq hS rfl ?_ (by show 0 ≤ sizeLine; decide) (by show 1 ≤ sizeLine + 1; decide))
  refine wpAny_updateSeq hS2 rfl ?_ (by show 1 ≤ sizeLine; decide) (by show 0 ≤ sizeLine + 1; decide)
  have hS3 := Heap.get?_update_self (Obj.mapSeq fun x => x.pop) hS2 rfl
  have up : ∀ (b : Addr) (o : Obj), b ≠ S → h.get? b = some o → ((h.update S (Obj.mapSeq fun x => x.push .none)).update S (Obj.mapSeq fun x => x.pop)).get? b = some o := fun b o hb e =>
    (Heap.get?_update_other _ _ (Ne.symm hb)).trans ((Heap.get?_update_other h _ (Ne.symm hb)).trans e)
  have D1 := Draws.tuple (prog := prog) (w := w) (A := A.in1.in1) hh i1 t1 Pt.n1 xs
  have D2 := Draws.tuple (prog := prog) (w := w) (A := A.in1.in1) hh i2 t2 Pt.n2 ys
  obtain ⟨a1, a2, hTO⟩ : ∃ a1 a2, IsTupOf2 h TO a1 a2 := by
    rcases J.zip with ⟨_, _, q⟩ | ⟨T, b, hm, _⟩
    · exact q
    · cases hm
  have J2 : Fill h0 z TI TO i1 i2 t1 t2 S xs ys 0 [] ((h.update S (Obj.mapSeq fun x => x.push .none)).update S (Obj.mapSeq fun x => x.pop)) :=
    { len := rfl
      lst := ⟨_, hS3⟩
      zip := .inl ⟨rfl, up z _ Pt.sz.1 hz, a1, a2, up TO _ Pt.sz.2.2.1 hTO⟩
      ti := up TI _ Pt.sz.2.1 J.ti
      s1 := D1.frame 0 h _ J.s1 fun b hb o e => up b o (by
          rcases List.mem_cons.mp hb with rfl | hb
          · exact Pt.sz.2.2.2.1
          · rw [List.mem_singleton.mp hb]; exact Pt.sz.2.2.2.2.2.1) e
      s2 := D2.frame 0 h _ J.s2 fun b hb o e => up b o (by
          rcases List.mem_cons.mp hb with rfl | hb
          · exact Pt.sz.2.2.2.2.1
          · rw [List.mem_singleton.mp hb]; exact Pt.sz.2.2.2.2.2.2) e
      at_ := fun j T hj => by cases hj
      new := fun T hm => by cases hm
      nd := .nil
      keep := fun b o e b1 b2 b3 b4 b5 => up b o b5 (J.keep b o e b1 b2 b3 b4 b5)
      size := by rw [Heap.size_update, Heap.size_update]; exact J.size
      lt := fun T hm => by cases hm }
  exact wpAny_pure ⟨plainId_quiet F.plain_extend_loop _, extend_zip hh Pt n1 n2 n0 hn g d os hR n 0 _ tk [] (by omega) (Nat.zero_le _) J2⟩
/-- list(z), z a zip of two tuples of one length that has not begun -/
theorem call_list_zip {E : Value → Shared → Prop} {Q : Value → Shared → Prop} {s : Shared} {n : Nat} {a1 a2 : Value} (hh : A.handled = none) (sep : ZipSep2 z TI TO i1 i2 [i1, t1] [i2, t2]) (m1 : t1 ≠ i1) (m2 : t2 ≠ i2) (n1 : xs.size = n) (n2 : ys.size = n) (n0 : 0 < n) (hn : n ≤ sizeLine)
    (hz : IsZip s.heap z TI TO .none) (hTI : IsTupOf2 s.heap TI (.ref i1) (.ref i2)) (hTO : IsTupOf2 s.heap TO a1 a2) (s1 : s.heap.IsTupleIter i1 t1 0 ∧ s.heap.IsTuple t1 xs) (s2 : s.heap.IsTupleIter i2 t2 0 ∧ s.heap.IsTuple t2 ys)
    (hQ : ∀ (Ts : List Addr) (h' : Heap) (tk : Nat), Filled (s.heap.push { cls := .type "list", data := .seq #[] }) z TO i1 i2 s.heap.objs.size xs ys n Ts h' → Q (.ref s.heap.objs.size) { s with heap := h', toks := tk }) :
    wpAny (model prog w) A (call (.type "list") [.ref z]) Q E s := by
  obtain ⟨hp, g, d, tk, os⟩ := s
  refine callType_codes (Q₁ := fun obj s1 => obj = .ref hp.objs.size ∧ s1 = { heap := hp.push { cls := .type "list", data := .seq #[] }, gens := g, drawn := d, toks := tk, os := os }) F.called_list (F.typeCall_list_1 (.ref z)) F.entry_list_init (code_list_new (.ref z) ⟨rfl, rfl⟩) fun obj s₁ h₁ => ?_
  obtain ⟨rfl, rfl⟩ := h₁
  have hS := Heap.get?_push_size hp (o := { cls := .type "list", data := .seq #[] }) rfl
  refine ⟨⟨_, hS, rfl⟩, F.args_list_init_2 _ _, ?_⟩
  show wpAny _ _ (Builtin.List.listItems (.ref hp.objs.size) >>= _) _ _ _
  refine wpAny_bind ?_
  show wpAny _ _ (seqItems? (.ref hp.objs.size) >>= _) _ _ _
  refine wpAny_bind (wpAny_seqItems hS rfl (wpAny_pure ?_))
  refine wpAny_bind (wpAny_updateSeq hS rfl ?_ (by show 0 ≤ sizeLine; decide) (by show 0 ≤ sizeLine + 1; decide))
  refine wpAny_bind (wpAny_letGo ?_)
  have l1 : z < hp.objs.size := Heap.lt_size hz
  have l2 : TI < hp.objs.size := Heap.lt_size hTI
  have l3 : TO < hp.objs.size := Heap.lt_size hTO
  have l4 : i1 < hp.objs.size := by obtain ⟨⟨o, q, _⟩, _⟩ := s1; exact Heap.lt_size q
  have l5 : i2 < hp.objs.size := by obtain ⟨⟨o, q, _⟩, _⟩ := s2; exact Heap.lt_size q
  have l6 : t1 < hp.objs.size := by obtain ⟨_, o, q, _⟩ := s1; exact Heap.lt_size q
  have l7 : t2 < hp.objs.size := by obtain ⟨_, o, q, _⟩ := s2; exact Heap.lt_size q
  have sp : (hp.push { cls := .type "list", data := .seq #[] }).objs.size = hp.objs.size + 1 := Heap.size_push ..
  have Pt : Parts (hp.push { cls := .type "list", data := .seq #[] }) z TI TO i1 i2 t1 t2 hp.objs.size :=
    ⟨sep, m1, m2, ⟨Nat.ne_of_lt l1, Nat.ne_of_lt l2, Nat.ne_of_lt l3, Nat.ne_of_lt l4, Nat.ne_of_lt l5, Nat.ne_of_lt l6, Nat.ne_of_lt l7⟩, by
      rw [sp]
      exact ⟨Nat.lt_succ_of_lt l1, Nat.lt_succ_of_lt l2, Nat.lt_succ_of_lt l3, Nat.lt_succ_of_lt l4, Nat.lt_succ_of_lt l5, Nat.lt_succ_self _⟩⟩
  have up : ∀ (b : Addr) (o : Obj), b ≠ hp.objs.size → hp.get? b = some o → ((hp.push { cls := .type "list", data := .seq #[] }).update hp.objs.size (Obj.mapSeq fun x => #[])).get? b = some o := fun b o hb e =>
    (Heap.get?_update_other _ _ (Ne.symm hb)).trans (Heap.get?_push_of_some _ e)
  have D1 := Draws.tuple (prog := prog) (w := w) (A := A.in1.in1) hh i1 t1 m1 xs
  have D2 := Draws.tuple (prog := prog) (w := w) (A := A.in1.in1) hh i2 t2 m2 ys
  have hS2 := Heap.get?_update_self (Obj.mapSeq fun x => #[]) hS rfl
  have J : Fill (hp.push { cls := .type "list", data := .seq #[] }) z TI TO i1 i2 t1 t2 hp.objs.size xs ys 0 [] ((hp.push { cls := .type "list", data := .seq #[] }).update hp.objs.size (Obj.mapSeq fun x => #[])) :=
    { len := rfl
      lst := ⟨_, hS2⟩
      zip := .inl ⟨rfl, up z _ (Nat.ne_of_lt l1) hz, a1, a2, up TO _ (Nat.ne_of_lt l3) hTO⟩
      ti := up TI _ (Nat.ne_of_lt l2) hTI
      s1 := D1.frame 0 hp _ s1 fun b hb o e => up b o (by
          rcases List.mem_cons.mp hb with rfl | hb
          · exact Nat.ne_of_lt l4
          · rw [List.mem_singleton.mp hb]; exact Nat.ne_of_lt l6) e
      s2 := D2.frame 0 hp _ s2 fun b hb o e => up b o (by
          rcases List.mem_cons.mp hb with rfl | hb
          · exact Nat.ne_of_lt l5
          · rw [List.mem_singleton.mp hb]; exact Nat.ne_of_lt l7) e
      at_ := fun j T hj => by cases hj
      new := fun T hm => by cases hm
      nd := .nil
      keep := fun b o e b1 b2 b3 b4 b5 => (Heap.get?_update_other _ _ (Ne.symm b5)).trans e
      size := by rw [Heap.size_update]; exact Nat.le_refl _
      lt := fun T hm => by cases hm }
  exact extendWith_zip (A := A.in1) hh Pt n1 n2 n0 hn g d os (fun Ts h' tk' q => ⟨rfl, hQ Ts h' tk' q⟩) _ tk J
end
end Ow
end
section
set_option maxHeartbeats 4000000
namespace Ow
open PySem PySem.Spec PyProof.Rows L2
/-- tuples of two laid at addresses -/
def layT (f : Nat → List V) : List Addr → Nat → Hp → Hp
  | [], _, H => H
  | T :: r, i, H => layT f r (i + 1) (upd H T (.tup (f i)))
theorem layT_else (f : Nat → List V) : ∀ (Ts : List Addr) (i : Nat) (H : Hp) (b : Addr), b ∉ Ts → layT f Ts i H b = H b
  | [], _, _, _, _ => rfl
  | T :: r, i, H, b, h => by
    have h1 : b ≠ T := fun e => h (by rw [e]; exact List.mem_cons_self)
    have h2 : b ∉ r := fun e => h (List.mem_cons_of_mem _ e)
    show layT f r (i + 1) (upd H T (.tup (f i))) b = H b
    rw [layT_else f r (i + 1) _ b h2, upd_ne h1]
theorem layT_at (f : Nat → List V) : ∀ (Ts : List Addr) (i : Nat) (H : Hp) (j : Nat) (T : Addr), Ts.Nodup → Ts[j]? = some T → layT f Ts i H T = some (.tup (f (i + j)))
  | [], _, _, _, _, _, h => by cases h
  | T0 :: r, i, H, 0, T, nd, h => by
    have e : T0 = T := by simpa using h
    rw [← e]
    show layT f r (i + 1) (upd H T0 (.tup (f i))) T0 = _
    rw [layT_else f r (i + 1) _ T0 (List.nodup_cons.mp nd).1, upd_same]
    rfl
  | T0 :: r, i, H, j + 1, T, nd, h => by
    show layT f r (i + 1) (upd H T0 (.tup (f i))) T = _
    rw [layT_at f r (i + 1) _ j T (List.nodup_cons.mp nd).2 (by simpa using h)]
    have e : i + 1 + j = i + (j + 1) := by omega
    rw [e]
theorem hok_layT {P : Program} {w : World} {h : Heap} (f : Nat → List V) : ∀ (Ts : List Addr) (i : Nat) (H : Hp), HOk P w H h → Ts.Nodup → (∀ T ∈ Ts, H T = none) → (∀ (j : Nat) (T : Addr), Ts[j]? = some T → ∀ H', ObjOk P w H' h T (.tup (f (i + j)))) → HOk P w (layT f Ts i H) h
  | [], _, _, k, _, _, _ => k
  | T :: r, i, H, k, nd, hn, ho => by
    obtain ⟨n1, n2⟩ := List.nodup_cons.mp nd
    refine hok_layT f r (i + 1) _ (HOk.laidN k (fun _ _ e => e) (hn T List.mem_cons_self) (ho 0 T rfl _)) n2 (fun T' hT' => ?_) fun j T' hj H' => ?_
    · rw [upd_ne (fun e => n1 (by rw [← e]; exact hT'))]
      exact hn T' (List.mem_cons_of_mem _ hT')
    · have := ho (j + 1) T' (by simpa using hj) H'
      have e : i + 1 + j = i + (j + 1) := by omega
      rw [e]
      exact this
theorem vals_refs : ∀ Ts : List Addr, Vals (Ts.map V.ref) (Ts.map Value.ref)
  | [] => .nil
  | T :: r => .cons rfl (vals_refs r)
/-- behind list(zip(a, b)) -/
structure Zipped (H H' : Hp) (S : Addr) (xs ys : List V) : Prop where
  same : Same H H'
  new : H S = none
  at_ : ∃ Ts : List Addr, H' S = some (.lst (Ts.map V.ref)) ∧ Ts.length = xs.length ∧ ∀ (j : Nat) (T : Addr), Ts[j]? = some T → ∃ x y, xs[j]? = some x ∧ ys[j]? = some y ∧ H' T = some (.tup [x, y])
def tListZip (K : PySem.W.Frag) (ta : TA) : TE := fun σ H Q => ta σ H fun vs H1 => ∃ a b xs ys, vs = [.ref a, .ref b] ∧ SqT K H1 a xs ∧ SqT K H1 b ys ∧ xs.length = ys.length ∧ 0 < xs.length ∧ ∀ S H', Zipped H1 H' S xs ys → Q (.ref S) H'
theorem pe_listzip {X : Cx} {e e2 : Expr} {ta : TA} {p p2 pos pos2 : Pos} (hc : X.calm = true) (hgl : Gl X "list") (hml : X.mg "list" = none) (hg : Gl X "zip") (hm : X.mg "zip" = none) (ha : PA X [e, e2] ta)
    (hs : starEach [e, e2] X.env = [(false, eval e X.env), (false, eval e2 X.env)] := by rfl) (hs2 : starEach [e2] X.env = [(false, eval e2 X.env)] := by rfl) :
    PE X (.Call (.Name "list" p) [.Call (.Name "zip" p2) [e, e2] [] pos2] [] pos) (tListZip X.K ta) := by
  refine ⟨fun pins s σ H Q I h => ?_⟩
  refine Call_ (ld_blt I hgl hml boot_list (PyProof.Rows.callWith_type1 ?_ (by rfl) (by rfl)))
  show wpAny _ _ (spliced ((false, eval (.Call (.Name "zip" p2) [e, e2] [] pos2) X.env) :: [])) _ _ _
  refine Calls.spliced_cons ?_
  refine Call_ (ld_blt I hg hm boot_zip (PyProof.Rows.callWith_type1 (thn (ha.run pos2 pins s σ H _ I h) fun us s1 ⟨vs, H1, I1, r1, a, b, xs, ys, ex, hq1, hq2, hl, h0, q⟩ => ?_) (by rw [hs, hs2]) (by rw [hs2]; rfl)))
  subst ex
  obtain ⟨u, u2, rfl, ru, ru2⟩ := vals2 r1
  obtain rfl : u = Value.ref a := ru
  obtain rfl : u2 = Value.ref b := ru2
  obtain ⟨its1, rv1, p1, z1⟩ := I1.tuple hq1
  obtain ⟨its2, rv2, p2', z2⟩ := I1.tuple hq2
  have big1 : a < s1.heap.objs.size := by obtain ⟨o, q, _⟩ := p1; exact Heap.lt_size q
  have big2 : b < s1.heap.objs.size := by obtain ⟨o, q, _⟩ := p2'; exact Heap.lt_size q
  refine zip_begins2 (begins_tuple a its1.toArray) (begins_tuple b its2.toArray) ?_ ?_ fun h' hz hTI hTO g1 g2 hsz hk => Calls.spliced_nil ?_
  · exact p1
  · exact p2'
  have sep : ZipSep2 (s1.heap.objs.size + 4) (s1.heap.objs.size + 2) (s1.heap.objs.size + 3) s1.heap.objs.size (s1.heap.objs.size + 1) [s1.heap.objs.size, a] [s1.heap.objs.size + 1, b] := by
    have ne1 : ∀ k, s1.heap.objs.size + k ≠ a := fun k => Nat.ne_of_gt (Nat.lt_of_lt_of_le big1 (Nat.le_add_right _ _))
    have ne2 : ∀ k, s1.heap.objs.size + k ≠ b := fun k => Nat.ne_of_gt (Nat.lt_of_lt_of_le big2 (Nat.le_add_right _ _))
    have two : ∀ {x y z : Addr}, x ≠ y → x ≠ z → x ∉ [y, z] := fun h1 h2 h => by
      rcases List.mem_cons.mp h with h | h
      · exact h1 h
      · exact h2 (List.mem_singleton.mp h)
    have lt2 : ∀ (k m : Nat), k ≠ m → s1.heap.objs.size + k ≠ s1.heap.objs.size + m := fun k m h e => h (Nat.add_left_cancel e)
    exact ⟨lt2 2 4 (by decide), lt2 3 4 (by decide), lt2 2 3 (by decide), lt2 2 0 (by decide), List.mem_cons_self, two (lt2 4 0 (by decide)) (ne1 4), two (lt2 3 0 (by decide)) (ne1 3), lt2 2 1 (by decide), List.mem_cons_self, two (lt2 4 1 (by decide)) (ne2 4), two (lt2 3 1 (by decide)) (ne2 3), two (lt2 0 1 (by decide)) (ne2 0), two (lt2 1 0 (by decide)) (ne1 1)⟩
  have n1 : its1.toArray.size = xs.length := by rw [List.size_toArray, rv1.length]
  have n2 : its2.toArray.size = xs.length := by rw [List.size_toArray, ← rv2.length, hl]
  have tk : ∀ {c : Addr} {its : Array Value}, s1.heap.IsTuple c its → h'.IsTuple c its := fun z => by
    obtain ⟨o, e1, e2⟩ := z
    exact ⟨o, hk _ o e1, e2⟩
  refine call_list_zip (I1.ok.hd hc) sep (Nat.ne_of_lt big1) (Nat.ne_of_lt (Nat.lt_succ_of_lt big2)) n1 n2 h0 z1 hz hTI hTO ⟨⟨_, g1, rfl, rfl⟩, tk p1⟩ ⟨⟨_, g2, rfl, rfl⟩, tk p2'⟩ fun Ts h'' tk' J => ?_
  have sp : (h'.push { cls := .type "list", data := .seq #[] }).objs.size = s1.heap.objs.size + 6 := by rw [Heap.size_push, hsz]
  have hS0 : h'.objs.size = s1.heap.objs.size + 5 := hsz
  have kp : ∀ (c : Addr) (o : Obj), s1.heap.get? c = some o → h''.get? c = some o := fun c o e => by
    have l : c < s1.heap.objs.size := Heap.lt_size e
    exact J.keep c o (Heap.get?_push_of_some _ (hk c o e)) (Nat.ne_of_lt (Nat.lt_of_lt_of_le l (by omega))) (Nat.ne_of_lt (Nat.lt_of_lt_of_le l (by omega))) (Nat.ne_of_lt (Nat.lt_of_lt_of_le l (by omega))) (Nat.ne_of_lt (Nat.lt_of_lt_of_le l (by omega))) (Nat.ne_of_lt (Nat.lt_of_lt_of_le l (by show s1.heap.objs.size ≤ h'.objs.size; omega)))
  have tnew : ∀ T ∈ Ts, s1.heap.objs.size + 6 ≤ T := fun T hT => by have := J.new T hT; rw [sp] at this; exact this
  have dom : ∀ (c : Addr) (o : HO), H1 c = some o → c < s1.heap.objs.size := fun c o e => by
    by_cases q : c < s1.heap.objs.size
    · exact q
    · rw [I1.hok.fresh (Nat.le_of_not_lt q)] at e
      cases e
  let f : Nat → List V := fun j => [xs.getD j .non, ys.getD j .non]
  have oldT : ∀ c, c < s1.heap.objs.size → layT f Ts 0 H1 c = H1 c := fun c l => layT_else f Ts 0 H1 c fun z => Nat.not_lt.mpr (tnew c z) (Nat.lt_of_lt_of_le l (Nat.le_add_right _ _))
  have old : ∀ c, c < s1.heap.objs.size → upd (layT f Ts 0 H1) h'.objs.size (.lst (Ts.map V.ref)) c = H1 c := fun c l => by
    rw [upd_ne (Nat.ne_of_lt (Nat.lt_of_lt_of_le l (by omega))), oldT c l]
  have pair : ∀ (j : Nat) (T : Addr), Ts[j]? = some T → ∃ x y, xs[j]? = some x ∧ ys[j]? = some y ∧ ∃ u v, IsTupOf2 h'' T u v ∧ RelV x u ∧ RelV y v := fun j T hj => by
    obtain ⟨u, v, e1, e2, e3⟩ := J.at_ j T hj
    have hlt : j < Ts.length := by
      by_cases q : j < Ts.length
      · exact q
      · rw [List.getElem?_eq_none (by omega)] at hj
        cases hj
    have hx : j < xs.length := by rw [← J.len]; exact hlt
    obtain ⟨u', w1, r1⟩ := rv1.get (List.getElem?_eq_getElem hx)
    obtain ⟨v', w2, r2⟩ := rv2.get (List.getElem?_eq_getElem (show j < ys.length by omega))
    rw [List.getElem?_toArray, w1] at e1
    rw [List.getElem?_toArray, w2] at e2
    cases e1
    cases e2
    exact ⟨_, _, List.getElem?_eq_getElem hx, List.getElem?_eq_getElem (by omega), _, _, e3, r1, r2⟩
  have okT : HOk X.prog X.w (layT f Ts 0 H1) h'' := by
    refine hok_layT f Ts 0 H1 (I1.hok.kept kp) J.nd (fun T hT => I1.hok.fresh (Nat.le_trans (Nat.le_add_right _ _) (tnew T hT))) fun j T hj H'' => ?_
    obtain ⟨x, y, e1, e2, u, v, e3, r1, r2⟩ := pair j T hj
    have ef : f (0 + j) = [x, y] := by
      show [xs.getD (0 + j) .non, ys.getD (0 + j) .non] = _
      rw [Nat.zero_add, List.getD_eq_getElem?_getD, List.getD_eq_getElem?_getD, e1, e2]
      rfl
    rw [ef]
    exact ⟨by show 2 ≤ sizeLine; decide, [u, v], .cons r1 (.cons r2 .nil), ⟨_, e3, rfl, _, rfl⟩⟩
  obtain ⟨cL, hL⟩ := J.lst
  have ok2 : HOk X.prog X.w (upd (layT f Ts 0 H1) h'.objs.size (.lst (Ts.map V.ref))) h'' := by
    refine HOk.laidN okT (fun _ _ e => e) ?_ ?_
    · rw [layT_else f Ts 0 H1 _ (fun z => by have := tnew _ z; omega)]
      exact I1.hok.fresh (by omega)
    · exact ⟨by rw [List.length_map, J.len]; exact z1, Ts.map Value.ref, _, vals_refs Ts, hL⟩
  have I2 := I1.un (t' := tk') (h' := h'') (H' := upd (layT f Ts 0 H1) h'.objs.size (.lst (Ts.map V.ref)))
    ⟨fun c o e _ _ _ => kp c o e, fun c o e _ _ _ => ⟨o.slots, kp c o e⟩, fun c o e n _ => by rw [old c (Heap.lt_size e)]; exact n, fun c o e _ => ⟨o, kp c o e⟩, fun c zs e => by rw [old c (dom c _ e)]; exact e, fun c o u e => by rw [old c (dom c _ e)]; exact e, fun c ps e => ⟨#[], by rw [old c (dom c _ e), Array.append_empty]; exact e⟩⟩ ok2
  refine ⟨.ref h'.objs.size, _, I2, rfl, q _ _ ⟨fun c o e => by rw [old c (dom c o e)]; exact e, I1.hok.fresh (by omega), Ts, upd_same, J.len, fun j T hj => ?_⟩⟩
  obtain ⟨x, y, e1, e2, u, v, e3, r1, r2⟩ := pair j T hj
  refine ⟨x, y, e1, e2, ?_⟩
  have hT := tnew T (List.mem_of_getElem? hj)
  rw [upd_ne (Nat.ne_of_gt (Nat.lt_of_lt_of_le (show h'.objs.size < s1.heap.objs.size + 6 by omega) hT)), layT_at f Ts 0 H1 j T J.nd hj]
  show some (HO.tup [xs.getD (0 + j) .non, ys.getD (0 + j) .non]) = _
  rw [Nat.zero_add, List.getD_eq_getElem?_getD, List.getD_eq_getElem?_getD, e1, e2]
  rfl
end Ow
end
section
set_option maxHeartbeats 4000000
/-! raise X(), X an own error without a def of its own. -/
namespace Ow
open PySem PySem.Spec PyProof.Rows L2 StX
theorem pmk_own0 {X : Cx} {C : Addr} {bmB : List Value} {B newId initId : String} {x : Str} {p pos : Pos} (F : ExcBaseFacts B newId initId bmB) (q : PySem.W.excIn X.K C bmB newId = true) (gC : X.mg x = some (.ref C)) (kC : PySem.W.keepIn X.K (.ref C) = true) (r : Raises X (.ref C)) (hg : Gl X x)
    (hdb : (x == ("__debug__" : Str)) = false := by decide) : PMk X (.Call (.Name x p) [] [] pos) (fun _ H Q => Q (.ref C) none H) := by
  intro pins s σ H Q I h
  refine wpAny_Call_Name_kw (ld_glob I hg gC ?_ hdb)
  refine PySem.W.callWith_K0 I.kIn kC ?_
  obtain ⟨bm, N, nm, qn, bs, hdct, sn, sub, ab, col, dd, k0, k1, k2, k3, k5, mN, hC, hN, hni, T⟩ := exc_obj I.kIn q
  obtain ⟨hp, g, dr, tk, os⟩ := s
  exact wpAny_call_exc_subT F T hC hN hni (fun h' e hm => mk_of I hm r h (I.hok.gone hm.new)) (by show 0 ≤ sizeLine; exact Nat.zero_le _)
end Ow
end
section
set_option maxHeartbeats 4000000
/-! x op= y where the class has that method of its own; ~x. -/
namespace Ow
open PySem PySem.Spec PyProof.Rows L2
section
variable {X : Cx} {CX : CXT} {n : Nat} {C g : Addr} {sp : Sp} {E : XK}
theorem iop_own {op : Operator} (hc : PySem.W.selfFirst X.K C = true) (hs : PySem.W.findIn X.K (.ref C) (dunderI op.info.2) = some (some (.ref g))) (hf : PySem.W.isFn X.K (.ref g) = true)
    (F : FnR X.prog X.w X.K X.mg X.base CX n g sp) (hr : Room n X.A) (hx : Passes CX X E) : OpR X (inplaceOp op) (rBin C sp E) := by
  intro pins s σ H x y v u Q I rx ry h
  obtain ⟨a, b, rfl, rfl, ha, hb, q⟩ := h
  cases (show v = Value.ref a from rx)
  cases (show u = Value.ref b from ry)
  obtain ⟨ox, od, J⟩ := inst_of I ha
  obtain ⟨m, hF⟩ := I.fr
  refine PySem.W.ksp_inplace (op := op) hF I.ok.mod.kin J hc hs hf ?_
  refine wpAny_mono (wpAny_call (run_fnR (us := [.ref a, .ref b]) (vs := [.ref a, .ref b]) F hr hx I (.cons rfl (.cons rfl .nil)) q)) (fun w s' z => ?_) fun _ _ x => x
  obtain ⟨z', H', I', rz, qz⟩ := z
  exact cmpbackR rz ⟨z', H', I', rz, qz⟩
end
end Ow
end
section
set_option maxHeartbeats 4000000
/-! A comprehension of which each item is known by what it is, not by where it stands. -/
namespace Ow
open PySem PySem.Spec PyProof.Rows L2
/-- all objects but lists stay -/
def NL (H H' : Hp) : Prop := ∀ b o, H b = some o → (∀ xs, o ≠ .lst xs) → H' b = some o
def LcE (R : Nat → V → Hp → Prop) (H1 H : Hp) (D : Addr) (i : Nat) : Prop := ∃ out, LcIn H1 H D out ∧ out.length = i ∧ ∀ j v, out[j]? = some v → R j v H
theorem kLc.each {J : It} {n : Nat} {G : Hp → Prop} {Y : Nat → Hp → V → Hp → Prop} (w : Walk J n G Y) {g : TG} {tt : TT} {te : TE} {vs : List Nat} {σ : L2.St} {Q : VK} {H1 : Hp} (R : Nat → V → Hp → Prop) (hG : ∀ H, Same H1 H → G H)
    (hs : ∀ D i x H H', i < n → LcE R H1 H D i → Y i H x H' → g x (wipe σ vs) H' fun σ2 H2 => wipe σ2 vs = wipe σ vs ∧ tt σ2 H2 fun b H3 => if b = true then te σ2 H3 (kApp D fun H' => LcE R H1 H' D (i + 1)) else LcE R H1 H3 D (i + 1))
    (hd : ∀ D H' out, Fresh H1 H' D (.lst out) → out.length = n → (∀ i v, out[i]? = some v → R i v H') → Q (.ref D) H') : kLc J g tt te vs σ Q H1 := fun D hD =>
  lc_it w (fun i H => LcE R H1 H D i) ⟨[], ⟨(fresh_upd hD).same, upd_same, hD⟩, rfl, fun j v h => by cases h⟩ (fun i H _ c => hG H (let ⟨_, c, _⟩ := c; c.same)) (fun i x H H' hi c y => hs D i x H H' hi c y) fun H c => let ⟨out, c, h1, h2⟩ := c; hd D H out ⟨c.same, c.at_, c.new⟩ h1 h2
theorem kApp.each {R : Nat → V → Hp → Prop} (hR : ∀ i v H H', R i v H → NL H H' → R i v H') {H1 H H4 : Hp} {D : Addr} {i : Nat} {y : V} (c : LcE R H1 H D i) (s : Same H H4) (hl : i < sizeLine) (h : R i y H4) : kApp D (fun H' => LcE R H1 H' D (i + 1)) y H4 := by
  obtain ⟨out, c, h1, h2⟩ := c
  have at4 := s _ _ c.at_
  have nl : NL H4 (upd H4 D (.lst (out ++ [y]))) := fun b o e n => by
    rw [upd_ne]
    · exact e
    · intro z
      rw [z, at4] at e
      exact n _ (Option.some.inj e).symm
  refine ⟨out, at4, by rw [h1]; exact hl, out ++ [y], ⟨fun b u e => ?_, upd_same, c.new⟩, by rw [List.length_append, h1]; rfl, fun j v hj => ?_⟩
  · rw [upd_ne (ne_of_none e c.new)]
    exact s _ _ (c.same _ _ e)
  · by_cases hlt : j < out.length
    · rw [List.getElem?_append_left hlt] at hj
      exact hR j v _ _ (h2 j v hj) fun b o e n => nl b o (s b o e) n
    · rw [List.getElem?_append_right (by omega)] at hj
      have hz : j - out.length = 0 := by
        by_cases q : j - out.length = 0
        · exact q
        · rw [List.getElem?_eq_none (by rw [List.length_singleton]; omega)] at hj
          cases hj
      rw [hz] at hj
      cases hj
      have e : j = i := by omega
      subst e
      exact hR _ _ _ _ h nl
theorem Same.putNew {H H1 H2 : Hp} {l : Addr} {o : HO} (s : Same H H1) (nl : H l = none) (f : Put H1 H2 l o) : Same H H2 := fun b u e => f.get (ne_of_none e nl) (s b u e)
theorem none_back {H H1 : Hp} {p : Addr} (s : Same H H1) (n : H1 p = none) : H p = none := by
  cases h : H p with
  | none => rfl
  | some o => rw [s _ _ h] at n; cases n
end Ow
end
section
set_option maxHeartbeats 4000000
/-! A comprehension with any invariant (its items may change what stands). -/
namespace Ow
open PySem PySem.Spec PyProof.Rows L2
theorem kLc.it {J : It} {n : Nat} {G : Hp → Prop} {Y : Nat → Hp → V → Hp → Prop} (w : Walk J n G Y) {g : TG} {tt : TT} {te : TE} {vs : List Nat} {σ : L2.St} {Q : VK} {H1 : Hp} (I : Addr → Nat → Hp → Prop) (h0 : ∀ D H', Fresh H1 H' D (.lst []) → I D 0 H') (hG : ∀ D i H, I D i H → G H)
    (hs : ∀ D i x H H', i < n → I D i H → Y i H x H' → g x (wipe σ vs) H' fun σ2 H2 => wipe σ2 vs = wipe σ vs ∧ tt σ2 H2 fun b H3 => if b = true then te σ2 H3 (kApp D fun H' => I D (i + 1) H') else I D (i + 1) H3)
    (hd : ∀ D H', I D n H' → Q (.ref D) H') : kLc J g tt te vs σ Q H1 := fun D hD =>
  lc_it w (fun i H => I D i H) (h0 D _ (fresh_upd hD)) (fun i H _ c => hG D i H c) (fun i x H H' hi c y => hs D i x H H' hi c y) fun H c => hd D H c
end Ow
end
section
set_option maxHeartbeats 4000000
/-! Rules whose readings name the knowledge K itself, not the context's: within comprehensions, where the context hangs on what is bound there. -/
namespace Ow
open PySem PySem.Spec PyProof.Rows L2
section
variable {X : Cx} {K : PySem.W.Frag}
def rJoin (K : PySem.W.Frag) : V → List V → Hp → VK → Prop := fun x xs H Q => ∃ a p, ∃ ys : List Str, x = .str a ∧ xs = [.ref p] ∧ (SqL K H p (ys.map V.str) ∨ SqT K H p (ys.map V.str)) ∧ (ys.map (·.length)).sum + ys.length * a.length ≤ 16777216 ∧ Q (.str (Txt.join a ys)) H
theorem pe_joinK {o e : Expr} {to te : TE} {apos pos : Pos} (hK : X.K = K) (ho : PE X o to) (he : PE X e te) (hs : starEach [e] X.env = [(false, eval e X.env)] := by rfl) (hbase : attributeBase o "join" X.env (eval o X.env) = eval o X.env := by rfl) (hline : (apos.endLine == pos.line) = true := by rfl) :
    PE X (.Call (.Attribute o "join" apos) [e] [] pos) (tM1 (rJoin K) to te) := by
  subst hK
  exact pe_join ho he hs hbase hline
theorem pi_listK {tg l : Expr} {tl : TE} (hK : X.K = K) (hl : PE X l tl) : PI X tg l (iList K tl) := by
  subst hK
  exact pi_list hl
theorem pi_tupK {tg l : Expr} {tl : TE} (hK : X.K = K) (hl : PE X l tl) : PI X tg l (iTup K tl) := by
  subst hK
  exact pi_tup hl
theorem ix_listK (hK : X.K = K) : IxR X (rIxL K) := by
  subst hK
  exact ix_list
theorem call_lenKK (hK : X.K = K) : CallR X (.builtin "len") (rLenSeq K) := by
  subst hK
  exact call_lenK
theorem call_tupleKK (hK : X.K = K) : CallR X (.type "tuple") (rTupOf K) := by
  subst hK
  exact call_tupleK
theorem call_listKK (hK : X.K = K) : CallR X (.type "list") (rListOf K) := by
  subst hK
  exact call_listK
theorem op_eqDK (hK : X.K = K) (hu : X.A.units + 64 < cLine) : OpR X (compareOp .Eq) (rEqD K) := by
  subst hK
  exact op_eqD hu
theorem op_neDK (hK : X.K = K) (hu : X.A.units + 64 < cLine) : OpR X (compareOp .NotEq) (rNeD K) := by
  subst hK
  exact op_neD hu
theorem op_inK (hK : X.K = K) : OpR X (compareOp .In) (rIn K false) := by
  subst hK
  exact op_in_seq
end
end Ow
end
section
set_option maxHeartbeats 4000000
/-! x in t, x not in t: t a tuple, items and x data of any depth. -/
namespace Ow
open PySem PySem.Spec PyProof.Rows L2
section
variable {X : Cx}
def rInDT (K : PySem.W.Frag) (neg : Bool) : R2 := fun x y H Q => ∃ d ds, Dp K H x d ∧ Dp K H y (.tuple ds) ∧ SeqAt.shaped d = true ∧ SeqAt.shaped (.tuple ds) = true ∧ Q (.bl (if neg then !(ds.any fun z => PyData.eqv z d) else ds.any fun z => PyData.eqv z d)) H
theorem op_notInDT (hu : X.A.units + 65 < cLine) : OpR X (compareOp .NotIn) (rInDT X.K true) := by
  intro pins s σ H x y v u Q I rx ry h
  obtain ⟨d, ds, hd, he, sd, se, q⟩ := h
  obtain ⟨as, r1⟩ := Dp.reads I d x v hd rx
  obtain ⟨bs, r2⟩ := Dp.reads I (.tuple ds) y u he ry
  exact SeqAt.notIn_tuple_reads r2 r1 (SeqAt.canLay_of_shaped se) (SeqAt.canLay_of_shaped sd) (room_in_shaped sd hu) ⟨.bl _, H, I, rfl, q⟩
theorem op_inDT (hu : X.A.units + 65 < cLine) : OpR X (compareOp .In) (rInDT X.K false) := by
  intro pins s σ H x y v u Q I rx ry h
  obtain ⟨d, ds, hd, he, sd, se, q⟩ := h
  obtain ⟨as, r1⟩ := Dp.reads I d x v hd rx
  obtain ⟨bs, r2⟩ := Dp.reads I (.tuple ds) y u he ry
  exact SeqAt.in_tuple_reads r2 r1 (SeqAt.canLay_of_shaped se) (SeqAt.canLay_of_shaped sd) (room_in_shaped sd hu) ⟨.bl _, H, I, rfl, q⟩
end
end Ow
end
section
set_option maxHeartbeats 4000000
/-! tuple * int, the int 1 or more. -/
namespace Ow
open PySem PySem.Spec PyProof.Rows L2
theorem tuple_mul1W (l : Addr) (items : Array Value) (n : Nat) (dd : Option Addr) (sl : Array (Option Value)) (u : Tok) :
    Meets (Builtin.«tuple.__mul__» ⟨[.ref l, .int 1 u], []⟩) (fun _ R s => s.heap.get? l = some { cls := .type "tuple", dict := dd, data := .seq items n, slots := sl } ∧
      R (.ok (.ret (Value.ref l))) s) :=
  .of_wp fun prog w A R s h => by
    obtain ⟨hp, g, d, tk, os⟩ := s
    obtain ⟨hl, h⟩ := h
    have f1 := AutoSeq1.idx_int
    wp_walk using wpAny_loadPart' hl
    exact ⟨_, rfl, h⟩
section
variable {X : Cx}
theorem op_repT1 : OpR X (binaryOp .Mult) (fun x y H Q => ∃ l xs, x = .ref l ∧ y = .int 1 ∧ SqT X.K H l xs ∧ Q (.ref l) H) := by
  intro pins s σ H x y v u Q I rx ry h
  obtain ⟨l, xs, rfl, rfl, hT, q⟩ := h
  cases rx
  obtain ⟨t, rfl⟩ := ry
  obtain ⟨its, r, ⟨⟨cls, dd, data, sl⟩, ho, hc, n, hd⟩, hs⟩ := I.tuple hT
  simp only at hc hd
  subst hc hd
  refine wpAny_binaryOp_repeat_ref (T := "tuple") (U := "int") (by decide) ⟨_, ho, rfl⟩ (fun s' => typeIs_int s' 1 t) noFill_tuple_mul F.fills_int_mul F.slot_int_rmul repeat_tuple F.slot_int_index.lookup
    (call_meets F.slot_int_rmul (typeIs_int s 1 t) F.entry_int_rmul (F.args_int_rmul_2 _ _) (int_rmul_tuple 1 t l its.toArray n dd sl)
      ⟨ho, rfl, ⟨_, ho, rfl⟩, call_meets F.slot_tuple_mul ⟨_, ho, rfl⟩ F.entry_tuple_mul (F.args_tuple_mul_2 _ _) (tuple_mul1W l its.toArray n dd sl t) ⟨ho, ?_⟩⟩)
  exact ⟨.ref l, H, I, rfl, q⟩
/-- t * k, k from 1 on: a new tuple, or the very one -/
def rRepT1 : R2 := fun x y H Q => ∃ l k xs, x = .ref l ∧ y = .int k ∧ H l = some (.tup xs) ∧ xs ≠ [] ∧ 1 ≤ k ∧ k ≤ 1000 ∧ xs.length ≤ 1000 ∧ ∀ t H', Same H H' → H' t = some (.tup (List.replicate k.toNat xs).flatten) → (H t = none ∨ t = l) → Q (.ref t) H'
theorem op_repTK : OpR X (binaryOp .Mult) rRepT1 := by
  intro pins s σ H x y v u Q I rx ry h
  obtain ⟨l, k, xs, rfl, rfl, hT, hne, h1, h2, h3, q⟩ := h
  by_cases e : k = 1
  · subst e
    exact op_repT1 pins s σ H _ _ v u Q I rx ry ⟨l, xs, rfl, rfl, .inl (.inl hT), q l H (Same.refl H) (by simpa using hT) (.inr rfl)⟩
  · exact op_repT pins s σ H _ _ v u Q I rx ry ⟨l, k, xs, rfl, rfl, .inl (.inl hT), hne, by omega, h2, h3, fun p hp => q p _ (fresh_upd hp).same (fresh_upd (o := .tup (List.replicate k.toNat xs).flatten) hp).at_ (.inl hp)⟩
end
end Ow
end
section
namespace Pf
open PySem PySem.Spec PyProof.Rows L2 Ow
def topS (i : Nat) : Stmt := PySem.Challenge.pw_heldfloods_k18_pictures_refused.main.body.getD i (.Pass ⟨0, 0, 0, 0⟩)
abbrev s__law_pen : Stmt := topS 42
theorem sc__law_pen : FnScope ["_law_script"] ["_law_script"] (defScope s__law_pen) := ⟨rfl, rfl, rfl, by decide +kernel, rfl, by decide +kernel, by decide +kernel⟩
abbrev s__law_draw : Stmt := topS 43
theorem sc__law_draw : FnScope ["_law_pen_here", "_law_many", "_law_digit", "_law_begun", "_law_cell", "_law_great", "_law_mixed"] ["_law_pen_here", "_law_many"] (defScope s__law_draw) := ⟨rfl, rfl, rfl, by decide +kernel, rfl, by decide +kernel, by decide +kernel⟩
abbrev s__law_pick : Stmt := topS 44
theorem sc__law_pick : FnScope ["_law_pen_here", "_law_some"] ["_law_pen_here", "_law_some"] (defScope s__law_pick) := ⟨rfl, rfl, rfl, by decide +kernel, rfl, by decide +kernel, by decide +kernel⟩
abbrev s_BadColour_init : Stmt := inClass (topS 3) 0
theorem sc_BadColour_init : FnScope ["self", "value"] ["self", "value"] (defScope s_BadColour_init) := ⟨rfl, rfl, rfl, by decide +kernel, rfl, by decide +kernel, by decide +kernel⟩
abbrev s_BadDeed_init : Stmt := inClass (topS 6) 0
theorem sc_BadDeed_init : FnScope ["self", "part"] ["self", "part"] (defScope s_BadDeed_init) := ⟨rfl, rfl, rfl, by decide +kernel, rfl, by decide +kernel, by decide +kernel⟩
abbrev s_BadPicture_init : Stmt := inClass (topS 5) 0
theorem sc_BadPicture_init : FnScope ["self", "row"] ["self", "row"] (defScope s_BadPicture_init) := ⟨rfl, rfl, rfl, by decide +kernel, rfl, by decide +kernel, by decide +kernel⟩
abbrev s_BadPixel_init : Stmt := inClass (topS 4) 0
theorem sc_BadPixel_init : FnScope ["self", "x", "y"] ["self", "x", "y"] (defScope s_BadPixel_init) := ⟨rfl, rfl, rfl, by decide +kernel, rfl, by decide +kernel, by decide +kernel⟩
abbrev s_BadSize_init : Stmt := inClass (topS 2) 0
theorem sc_BadSize_init : FnScope ["self", "part"] ["self", "part"] (defScope s_BadSize_init) := ⟨rfl, rfl, rfl, by decide +kernel, rfl, by decide +kernel, by decide +kernel⟩
abbrev s_is_int : Stmt := topS 11
theorem sc_is_int : FnScope ["value"] ["value"] (defScope s_is_int) := ⟨rfl, rfl, rfl, by decide +kernel, rfl, by decide +kernel, by decide +kernel⟩
abbrev s_is_int_in : Stmt := topS 12
theorem sc_is_int_in : FnScope ["value", "low", "beyond"] ["value", "low", "beyond"] (defScope s_is_int_in) := ⟨rfl, rfl, rfl, by decide +kernel, rfl, by decide +kernel, by decide +kernel⟩
abbrev s_is_colour : Stmt := topS 13
theorem sc_is_colour : FnScope ["value"] ["value"] (defScope s_is_colour) := ⟨rfl, rfl, rfl, by decide +kernel, rfl, by decide +kernel, by decide +kernel⟩
abbrev s_check_colour : Stmt := topS 14
theorem sc_check_colour : FnScope ["value"] ["value"] (defScope s_check_colour) := ⟨rfl, rfl, rfl, by decide +kernel, rfl, by decide +kernel, by decide +kernel⟩
abbrev s_check_side : Stmt := topS 15
theorem sc_check_side : FnScope ["value", "part", "most"] ["value", "part", "most"] (defScope s_check_side) := ⟨rfl, rfl, rfl, by decide +kernel, rfl, by decide +kernel, by decide +kernel⟩
abbrev s_check_axis : Stmt := topS 16
theorem sc_check_axis : FnScope ["value"] ["value"] (defScope s_check_axis) := ⟨rfl, rfl, rfl, by decide +kernel, rfl, by decide +kernel, by decide +kernel⟩
abbrev s_is_row : Stmt := topS 20
theorem sc_is_row : FnScope ["value", "most"] ["value", "most"] (defScope s_is_row) := ⟨rfl, rfl, rfl, by decide +kernel, rfl, by decide +kernel, by decide +kernel⟩
abbrev s_wrong_row : Stmt := topS 19
theorem sc_wrong_row : FnScope ["rows", "most", "at", "row"] ["rows", "most"] (defScope s_wrong_row) := ⟨rfl, rfl, rfl, by decide +kernel, rfl, by decide +kernel, by decide +kernel⟩
abbrev s_is_pixel : Stmt := topS 21
theorem sc_is_pixel : FnScope ["rows", "x", "y"] ["rows", "x", "y"] (defScope s_is_pixel) := ⟨rfl, rfl, rfl, by decide +kernel, rfl, by decide +kernel, by decide +kernel⟩
abbrev s_check_pixel : Stmt := topS 22
theorem sc_check_pixel : FnScope ["rows", "x", "y"] ["rows", "x", "y"] (defScope s_check_pixel) := ⟨rfl, rfl, rfl, by decide +kernel, rfl, by decide +kernel, by decide +kernel⟩
abbrev s_Picture_init : Stmt := inClass (topS 35) 1
theorem sc_Picture_init : FnScope ["self", "rows", "wrong"] ["self", "rows"] (defScope s_Picture_init) := ⟨rfl, rfl, rfl, by decide +kernel, rfl, by decide +kernel, by decide +kernel⟩
abbrev s_Picture_plain : Stmt := inClass (topS 35) 2
theorem sc_Picture_plain : FnScope ["width", "height", "colour"] ["width", "height", "colour"] (defScope s_Picture_plain) := ⟨rfl, rfl, rfl, by decide +kernel, rfl, by decide +kernel, by decide +kernel⟩
abbrev s_Picture_height : Stmt := inClass (topS 35) 6
theorem sc_Picture_height : FnScope ["self"] ["self"] (defScope s_Picture_height) := ⟨rfl, rfl, rfl, by decide +kernel, rfl, by decide +kernel, by decide +kernel⟩
abbrev s_Picture_getitem : Stmt := inClass (topS 35) 8
theorem sc_Picture_getitem : FnScope ["self", "at", "x", "y"] ["self", "at"] (defScope s_Picture_getitem) := ⟨rfl, rfl, rfl, by decide +kernel, rfl, by decide +kernel, by decide +kernel⟩
abbrev s_Picture_area : Stmt := inClass (topS 35) 11
theorem sc_Picture_area : FnScope ["self", "colour", "row"] ["self", "colour"] (defScope s_Picture_area) := ⟨rfl, rfl, rfl, by decide +kernel, rfl, by decide +kernel, by decide +kernel⟩
abbrev s_Picture_flipped : Stmt := inClass (topS 35) 23
theorem sc_Picture_flipped : FnScope ["self", "axis"] ["self", "axis"] (defScope s_Picture_flipped) := ⟨rfl, rfl, rfl, by decide +kernel, rfl, by decide +kernel, by decide +kernel⟩
abbrev s_Picture_region : Stmt := inClass (topS 35) 25
theorem sc_Picture_region : FnScope ["self", "x", "y"] ["self", "x", "y"] (defScope s_Picture_region) := ⟨rfl, rfl, rfl, by decide +kernel, rfl, by decide +kernel, by decide +kernel⟩
abbrev s_Picture_way : Stmt := inClass (topS 35) 26
theorem sc_Picture_way : FnScope ["self", "x", "y", "to_x", "to_y"] ["self", "x", "y", "to_x", "to_y"] (defScope s_Picture_way) := ⟨rfl, rfl, rfl, by decide +kernel, rfl, by decide +kernel, by decide +kernel⟩
abbrev s__law_heard : Stmt := topS 45
theorem sc__law_heard : FnScope ["_law_ask", "error"] ["_law_ask"] (defScope s__law_heard) := ⟨rfl, rfl, rfl, by decide +kernel, rfl, by decide +kernel, by decide +kernel⟩
abbrev s__law_is_line : Stmt := topS 46
theorem sc__law_is_line : FnScope ["_law_value", "_law_first", "_law_sign"] ["_law_value", "_law_first"] (defScope s__law_is_line) := ⟨rfl, rfl, rfl, by decide +kernel, rfl, by decide +kernel, by decide +kernel⟩
abbrev s__law_due : Stmt := topS 47
theorem sc__law_due : FnScope ["_law_handed_here", "_law_k"] ["_law_handed_here"] (defScope s__law_due) := ⟨rfl, rfl, rfl, by decide +kernel, rfl, by decide +kernel, by decide +kernel⟩
abbrev s__law_handed : Stmt := topS 48
theorem sc__law_handed : FnScope ["_law_pen_here", "_law_way", "_law_wide", "_law_lines", "_law_turn", "_law_odd", "_law_j"] ["_law_pen_here"] (defScope s__law_handed) := ⟨rfl, rfl, rfl, by decide +kernel, rfl, by decide +kernel, by decide +kernel⟩
abbrev s__law_odd_whole : Stmt := topS 49
theorem sc__law_odd_whole : FnScope ["_law_pen_here", "_law_most"] ["_law_pen_here", "_law_most"] (defScope s__law_odd_whole) := ⟨rfl, rfl, rfl, by decide +kernel, rfl, by decide +kernel, by decide +kernel⟩
abbrev s__law_sizes_right : Stmt := topS 50
theorem sc__law_sizes_right : FnScope ["_law_pen_here", "_law_good", "_law_odd", "_law_bent", "_law_dues", "_law_due_here", "_law_heard_here", "_law_some", "_law_k"] ["_law_pen_here"] (defScope s__law_sizes_right) := ⟨rfl, rfl, rfl, by decide +kernel, rfl, by decide +kernel, by decide +kernel⟩
abbrev s__law_pixels_right : Stmt := topS 51
theorem sc__law_pixels_right : FnScope ["_law_pen_here", "_law_wide", "_law_tall", "_law_heard_here", "_law_good", "_law_i", "_law_j", "_law_made", "_law_one", "_law_paint", "_law_turn", "_law_two"] ["_law_pen_here"] (defScope s__law_pixels_right) := ⟨rfl, rfl, rfl, by decide +kernel, rfl, by decide +kernel, by decide +kernel⟩
abbrev s_law : Stmt := topS 52
theorem sc_law : FnScope ["_law_script", "_law_pen_here", "_law_turn", "_law_due_here", "_law_kept", "_law_heard_here", "_law_handed_here"] ["_law_script"] (defScope s_law) := ⟨rfl, rfl, rfl, by decide +kernel, rfl, by decide +kernel, by decide +kernel⟩
structure Adr where
  _law_pen : Addr
  _law_draw : Addr
  _law_pick : Addr
  BadColour_init : Addr
  BadDeed_init : Addr
  BadPicture_init : Addr
  BadPixel_init : Addr
  BadSize_init : Addr
  is_int : Addr
  is_int_in : Addr
  is_colour : Addr
  check_colour : Addr
  check_side : Addr
  check_axis : Addr
  is_row : Addr
  wrong_row : Addr
  is_pixel : Addr
  check_pixel : Addr
  Picture_init : Addr
  Picture_plain : Addr
  Picture_height : Addr
  Picture_getitem : Addr
  Picture_area : Addr
  Picture_flipped : Addr
  Picture_region : Addr
  Picture_way : Addr
  _law_heard : Addr
  _law_is_line : Addr
  _law_due : Addr
  _law_handed : Addr
  _law_odd_whole : Addr
  _law_sizes_right : Addr
  _law_pixels_right : Addr
  law : Addr
  Picture : Addr
  pr_Picture_height : Addr
  BadColour : Addr
  BadDeed : Addr
  BadPicture : Addr
  BadPixel : Addr
  BadSize : Addr
  HoldError : Addr
  sm_plain : Addr
  AXES : Addr
structure Txt (K : PySem.W.Frag) (mg : Str → Option Value) (a : Adr) : Prop where
  n_len : mg "len" = none
  n_int : mg "int" = none
  n_abs : mg "abs" = none
  n_list : mg "list" = none
  n_range : mg "range" = none
  n_repr : mg "repr" = none
  n_tuple : mg "tuple" = none
  n_str : mg "str" = none
  n_isinstance : mg "isinstance" = none
  n_bool : mg "bool" = none
  n_enumerate : mg "enumerate" = none
  d__law_pen : FnT K "_law_pen" "_law_pen" s__law_pen [] a._law_pen
  m__law_pen : mg "_law_pen" = some (.ref a._law_pen)
  k__law_pen : PySem.W.keepIn K (.ref a._law_pen) = true
  d__law_draw : FnT K "_law_draw" "_law_draw" s__law_draw [] a._law_draw
  m__law_draw : mg "_law_draw" = some (.ref a._law_draw)
  k__law_draw : PySem.W.keepIn K (.ref a._law_draw) = true
  d__law_pick : FnT K "_law_pick" "_law_pick" s__law_pick [] a._law_pick
  m__law_pick : mg "_law_pick" = some (.ref a._law_pick)
  k__law_pick : PySem.W.keepIn K (.ref a._law_pick) = true
  d_BadColour_init : FnT K "__init__" "BadColour.__init__" s_BadColour_init [] a.BadColour_init
  d_BadDeed_init : FnT K "__init__" "BadDeed.__init__" s_BadDeed_init [] a.BadDeed_init
  d_BadPicture_init : FnT K "__init__" "BadPicture.__init__" s_BadPicture_init [] a.BadPicture_init
  d_BadPixel_init : FnT K "__init__" "BadPixel.__init__" s_BadPixel_init [] a.BadPixel_init
  d_BadSize_init : FnT K "__init__" "BadSize.__init__" s_BadSize_init [] a.BadSize_init
  d_is_int : FnT K "is_int" "is_int" s_is_int [] a.is_int
  m_is_int : mg "is_int" = some (.ref a.is_int)
  k_is_int : PySem.W.keepIn K (.ref a.is_int) = true
  d_is_int_in : FnT K "is_int_in" "is_int_in" s_is_int_in [] a.is_int_in
  m_is_int_in : mg "is_int_in" = some (.ref a.is_int_in)
  k_is_int_in : PySem.W.keepIn K (.ref a.is_int_in) = true
  d_is_colour : FnT K "is_colour" "is_colour" s_is_colour [] a.is_colour
  m_is_colour : mg "is_colour" = some (.ref a.is_colour)
  k_is_colour : PySem.W.keepIn K (.ref a.is_colour) = true
  d_check_colour : FnT K "check_colour" "check_colour" s_check_colour [] a.check_colour
  m_check_colour : mg "check_colour" = some (.ref a.check_colour)
  k_check_colour : PySem.W.keepIn K (.ref a.check_colour) = true
  d_check_side : FnT K "check_side" "check_side" s_check_side [] a.check_side
  m_check_side : mg "check_side" = some (.ref a.check_side)
  k_check_side : PySem.W.keepIn K (.ref a.check_side) = true
  d_check_axis : FnT K "check_axis" "check_axis" s_check_axis [] a.check_axis
  m_check_axis : mg "check_axis" = some (.ref a.check_axis)
  k_check_axis : PySem.W.keepIn K (.ref a.check_axis) = true
  d_is_row : FnT K "is_row" "is_row" s_is_row [] a.is_row
  m_is_row : mg "is_row" = some (.ref a.is_row)
  k_is_row : PySem.W.keepIn K (.ref a.is_row) = true
  d_wrong_row : FnT K "wrong_row" "wrong_row" s_wrong_row [] a.wrong_row
  m_wrong_row : mg "wrong_row" = some (.ref a.wrong_row)
  k_wrong_row : PySem.W.keepIn K (.ref a.wrong_row) = true
  d_is_pixel : FnT K "is_pixel" "is_pixel" s_is_pixel [] a.is_pixel
  m_is_pixel : mg "is_pixel" = some (.ref a.is_pixel)
  k_is_pixel : PySem.W.keepIn K (.ref a.is_pixel) = true
  d_check_pixel : FnT K "check_pixel" "check_pixel" s_check_pixel [] a.check_pixel
  m_check_pixel : mg "check_pixel" = some (.ref a.check_pixel)
  k_check_pixel : PySem.W.keepIn K (.ref a.check_pixel) = true
  d_Picture_init : FnT K "__init__" "Picture.__init__" s_Picture_init [] a.Picture_init
  d_Picture_plain : FnT K "plain" "Picture.plain" s_Picture_plain [.int 0] a.Picture_plain
  d_Picture_height : FnT K "height" "Picture.height" s_Picture_height [] a.Picture_height
  d_Picture_getitem : FnT K "__getitem__" "Picture.__getitem__" s_Picture_getitem [] a.Picture_getitem
  d_Picture_area : FnT K "area" "Picture.area" s_Picture_area [] a.Picture_area
  d_Picture_flipped : FnT K "flipped" "Picture.flipped" s_Picture_flipped [] a.Picture_flipped
  d_Picture_region : FnT K "region" "Picture.region" s_Picture_region [] a.Picture_region
  d_Picture_way : FnT K "way" "Picture.way" s_Picture_way [] a.Picture_way
  d__law_heard : FnT K "_law_heard" "_law_heard" s__law_heard [] a._law_heard
  m__law_heard : mg "_law_heard" = some (.ref a._law_heard)
  k__law_heard : PySem.W.keepIn K (.ref a._law_heard) = true
  d__law_is_line : FnT K "_law_is_line" "_law_is_line" s__law_is_line [] a._law_is_line
  m__law_is_line : mg "_law_is_line" = some (.ref a._law_is_line)
  k__law_is_line : PySem.W.keepIn K (.ref a._law_is_line) = true
  d__law_due : FnT K "_law_due" "_law_due" s__law_due [] a._law_due
  m__law_due : mg "_law_due" = some (.ref a._law_due)
  k__law_due : PySem.W.keepIn K (.ref a._law_due) = true
  d__law_handed : FnT K "_law_handed" "_law_handed" s__law_handed [] a._law_handed
  m__law_handed : mg "_law_handed" = some (.ref a._law_handed)
  k__law_handed : PySem.W.keepIn K (.ref a._law_handed) = true
  d__law_odd_whole : FnT K "_law_odd_whole" "_law_odd_whole" s__law_odd_whole [] a._law_odd_whole
  m__law_odd_whole : mg "_law_odd_whole" = some (.ref a._law_odd_whole)
  k__law_odd_whole : PySem.W.keepIn K (.ref a._law_odd_whole) = true
  d__law_sizes_right : FnT K "_law_sizes_right" "_law_sizes_right" s__law_sizes_right [] a._law_sizes_right
  m__law_sizes_right : mg "_law_sizes_right" = some (.ref a._law_sizes_right)
  k__law_sizes_right : PySem.W.keepIn K (.ref a._law_sizes_right) = true
  d__law_pixels_right : FnT K "_law_pixels_right" "_law_pixels_right" s__law_pixels_right [] a._law_pixels_right
  m__law_pixels_right : mg "_law_pixels_right" = some (.ref a._law_pixels_right)
  k__law_pixels_right : PySem.W.keepIn K (.ref a._law_pixels_right) = true
  d_law : FnT K "law" "law" s_law [] a.law
  m_law : mg "law" = some (.ref a.law)
  k_law : PySem.W.keepIn K (.ref a.law) = true
  m_Picture : mg "Picture" = some (.ref a.Picture)
  c_Picture : ClsF K a.Picture
  M_Picture : Mk K a.Picture a.Picture_init
  a_Picture__rows : NoAttr K a.Picture "_rows"
  p_Picture_height : PropR K a.Picture "height" a.pr_Picture_height a.Picture_height
  o_Picture_getitem : PySem.W.findIn K (.ref a.Picture) "__getitem__" = some (some (.ref a.Picture_getitem))
  f_Picture_getitem : PySem.W.isFn K (.ref a.Picture_getitem) = true
  cr_Picture : ClX.CRead K a.Picture (.type "type")
  cv_MOST : ∃ u, ClX.CVal K a.Picture (.type "type") "MOST" (.int 200) u
  fi_getitem : PySem.W.fnIn K a.Picture_getitem = true
  sm_plain : SMet K a.Picture (.type "type") "plain" a.sm_plain a.Picture_plain
  mt_area : Meth K a.Picture "area" a.Picture_area
  mt_flipped : Meth K a.Picture "flipped" a.Picture_flipped
  mt_region : Meth K a.Picture "region" a.Picture_region
  mt_way : Meth K a.Picture "way" a.Picture_way
  m_HoldError : mg "HoldError" = some (.ref a.HoldError)
  xf_BadColour : XfC K a.BadColour
  xc_BadColour : ExcC K a.BadColour
  xi_BadColour : (PySem.W.clsIn K a.BadColour).isSome = true
  xt_BadColour : PySem.W.typeIn K (.ref a.BadColour) = some (.type "type")
  xm_BadColour_HoldError : PySem.W.exmOne K (.ref a.BadColour) (.ref a.HoldError) = some true
  xm_BadColour_BadColour : PySem.W.exmOne K (.ref a.BadColour) (.ref a.BadColour) = some true
  xs_BadColour_BadDeed : PySem.W.subIn K (.ref a.BadColour) (.ref a.BadDeed) = some false
  xn_BadColour_BadDeed : ((.ref a.BadColour : Value) == .ref a.BadDeed) = false
  xs_BadColour_BadPicture : PySem.W.subIn K (.ref a.BadColour) (.ref a.BadPicture) = some false
  xn_BadColour_BadPicture : ((.ref a.BadColour : Value) == .ref a.BadPicture) = false
  xs_BadColour_BadPixel : PySem.W.subIn K (.ref a.BadColour) (.ref a.BadPixel) = some false
  xn_BadColour_BadPixel : ((.ref a.BadColour : Value) == .ref a.BadPixel) = false
  xs_BadColour_BadSize : PySem.W.subIn K (.ref a.BadColour) (.ref a.BadSize) = some false
  xn_BadColour_BadSize : ((.ref a.BadColour : Value) == .ref a.BadSize) = false
  xf_BadDeed : XfC K a.BadDeed
  xc_BadDeed : ExcC K a.BadDeed
  xi_BadDeed : (PySem.W.clsIn K a.BadDeed).isSome = true
  xt_BadDeed : PySem.W.typeIn K (.ref a.BadDeed) = some (.type "type")
  xm_BadDeed_HoldError : PySem.W.exmOne K (.ref a.BadDeed) (.ref a.HoldError) = some true
  xm_BadDeed_BadDeed : PySem.W.exmOne K (.ref a.BadDeed) (.ref a.BadDeed) = some true
  xs_BadDeed_BadColour : PySem.W.subIn K (.ref a.BadDeed) (.ref a.BadColour) = some false
  xn_BadDeed_BadColour : ((.ref a.BadDeed : Value) == .ref a.BadColour) = false
  xs_BadDeed_BadPicture : PySem.W.subIn K (.ref a.BadDeed) (.ref a.BadPicture) = some false
  xn_BadDeed_BadPicture : ((.ref a.BadDeed : Value) == .ref a.BadPicture) = false
  xs_BadDeed_BadPixel : PySem.W.subIn K (.ref a.BadDeed) (.ref a.BadPixel) = some false
  xn_BadDeed_BadPixel : ((.ref a.BadDeed : Value) == .ref a.BadPixel) = false
  xs_BadDeed_BadSize : PySem.W.subIn K (.ref a.BadDeed) (.ref a.BadSize) = some false
  xn_BadDeed_BadSize : ((.ref a.BadDeed : Value) == .ref a.BadSize) = false
  xf_BadPicture : XfC K a.BadPicture
  xc_BadPicture : ExcC K a.BadPicture
  xi_BadPicture : (PySem.W.clsIn K a.BadPicture).isSome = true
  xt_BadPicture : PySem.W.typeIn K (.ref a.BadPicture) = some (.type "type")
  xm_BadPicture_HoldError : PySem.W.exmOne K (.ref a.BadPicture) (.ref a.HoldError) = some true
  xm_BadPicture_BadPicture : PySem.W.exmOne K (.ref a.BadPicture) (.ref a.BadPicture) = some true
  xs_BadPicture_BadColour : PySem.W.subIn K (.ref a.BadPicture) (.ref a.BadColour) = some false
  xn_BadPicture_BadColour : ((.ref a.BadPicture : Value) == .ref a.BadColour) = false
  xs_BadPicture_BadDeed : PySem.W.subIn K (.ref a.BadPicture) (.ref a.BadDeed) = some false
  xn_BadPicture_BadDeed : ((.ref a.BadPicture : Value) == .ref a.BadDeed) = false
  xs_BadPicture_BadPixel : PySem.W.subIn K (.ref a.BadPicture) (.ref a.BadPixel) = some false
  xn_BadPicture_BadPixel : ((.ref a.BadPicture : Value) == .ref a.BadPixel) = false
  xs_BadPicture_BadSize : PySem.W.subIn K (.ref a.BadPicture) (.ref a.BadSize) = some false
  xn_BadPicture_BadSize : ((.ref a.BadPicture : Value) == .ref a.BadSize) = false
  xf_BadPixel : XfC K a.BadPixel
  xc_BadPixel : ExcC K a.BadPixel
  xi_BadPixel : (PySem.W.clsIn K a.BadPixel).isSome = true
  xt_BadPixel : PySem.W.typeIn K (.ref a.BadPixel) = some (.type "type")
  xm_BadPixel_HoldError : PySem.W.exmOne K (.ref a.BadPixel) (.ref a.HoldError) = some true
  xm_BadPixel_BadPixel : PySem.W.exmOne K (.ref a.BadPixel) (.ref a.BadPixel) = some true
  xs_BadPixel_BadColour : PySem.W.subIn K (.ref a.BadPixel) (.ref a.BadColour) = some false
  xn_BadPixel_BadColour : ((.ref a.BadPixel : Value) == .ref a.BadColour) = false
  xs_BadPixel_BadDeed : PySem.W.subIn K (.ref a.BadPixel) (.ref a.BadDeed) = some false
  xn_BadPixel_BadDeed : ((.ref a.BadPixel : Value) == .ref a.BadDeed) = false
  xs_BadPixel_BadPicture : PySem.W.subIn K (.ref a.BadPixel) (.ref a.BadPicture) = some false
  xn_BadPixel_BadPicture : ((.ref a.BadPixel : Value) == .ref a.BadPicture) = false
  xs_BadPixel_BadSize : PySem.W.subIn K (.ref a.BadPixel) (.ref a.BadSize) = some false
  xn_BadPixel_BadSize : ((.ref a.BadPixel : Value) == .ref a.BadSize) = false
  xf_BadSize : XfC K a.BadSize
  xc_BadSize : ExcC K a.BadSize
  xi_BadSize : (PySem.W.clsIn K a.BadSize).isSome = true
  xt_BadSize : PySem.W.typeIn K (.ref a.BadSize) = some (.type "type")
  xm_BadSize_HoldError : PySem.W.exmOne K (.ref a.BadSize) (.ref a.HoldError) = some true
  xm_BadSize_BadSize : PySem.W.exmOne K (.ref a.BadSize) (.ref a.BadSize) = some true
  xs_BadSize_BadColour : PySem.W.subIn K (.ref a.BadSize) (.ref a.BadColour) = some false
  xn_BadSize_BadColour : ((.ref a.BadSize : Value) == .ref a.BadColour) = false
  xs_BadSize_BadDeed : PySem.W.subIn K (.ref a.BadSize) (.ref a.BadDeed) = some false
  xn_BadSize_BadDeed : ((.ref a.BadSize : Value) == .ref a.BadDeed) = false
  xs_BadSize_BadPicture : PySem.W.subIn K (.ref a.BadSize) (.ref a.BadPicture) = some false
  xn_BadSize_BadPicture : ((.ref a.BadSize : Value) == .ref a.BadPicture) = false
  xs_BadSize_BadPixel : PySem.W.subIn K (.ref a.BadSize) (.ref a.BadPixel) = some false
  xn_BadSize_BadPixel : ((.ref a.BadSize : Value) == .ref a.BadPixel) = false
  m_AXES : mg "AXES" = some (.ref a.AXES)
  xmn_BadDeed_BadColour : PySem.W.exmOne K (.ref a.BadDeed) (.ref a.BadColour) = some false
  xmn_BadPicture_BadColour : PySem.W.exmOne K (.ref a.BadPicture) (.ref a.BadColour) = some false
  xmn_BadPicture_BadDeed : PySem.W.exmOne K (.ref a.BadPicture) (.ref a.BadDeed) = some false
  xmn_BadPixel_BadColour : PySem.W.exmOne K (.ref a.BadPixel) (.ref a.BadColour) = some false
  xmn_BadPixel_BadDeed : PySem.W.exmOne K (.ref a.BadPixel) (.ref a.BadDeed) = some false
  xmn_BadPixel_BadPicture : PySem.W.exmOne K (.ref a.BadPixel) (.ref a.BadPicture) = some false
  xmn_BadSize_BadColour : PySem.W.exmOne K (.ref a.BadSize) (.ref a.BadColour) = some false
  xmn_BadSize_BadDeed : PySem.W.exmOne K (.ref a.BadSize) (.ref a.BadDeed) = some false
  xmn_BadSize_BadPicture : PySem.W.exmOne K (.ref a.BadSize) (.ref a.BadPicture) = some false
  xmn_BadSize_BadPixel : PySem.W.exmOne K (.ref a.BadSize) (.ref a.BadPixel) = some false
  t_AXES : ∃ (o : Obj) (its : Array Value) (n : Nat), K.lookup a.AXES = some o ∧ o.cls = .type "tuple" ∧ o.data = .seq its n ∧ its.size ≤ sizeLine ∧ Vals [.str "across", .str "down"] its.toList
  m_BadColour : mg "BadColour" = some (.ref a.BadColour)
  e_BadColour : ErrF K a.BadColour a.BadColour_init
  a_BadColour_value : PySem.W.findIn K (.ref a.BadColour) "value" = some none
  m_BadDeed : mg "BadDeed" = some (.ref a.BadDeed)
  e_BadDeed : ErrF K a.BadDeed a.BadDeed_init
  a_BadDeed_part : PySem.W.findIn K (.ref a.BadDeed) "part" = some none
  m_BadPicture : mg "BadPicture" = some (.ref a.BadPicture)
  e_BadPicture : ErrF K a.BadPicture a.BadPicture_init
  a_BadPicture_row : PySem.W.findIn K (.ref a.BadPicture) "row" = some none
  m_BadPixel : mg "BadPixel" = some (.ref a.BadPixel)
  e_BadPixel : ErrF K a.BadPixel a.BadPixel_init
  a_BadPixel_x : PySem.W.findIn K (.ref a.BadPixel) "x" = some none
  a_BadPixel_y : PySem.W.findIn K (.ref a.BadPixel) "y" = some none
  m_BadSize : mg "BadSize" = some (.ref a.BadSize)
  e_BadSize : ErrF K a.BadSize a.BadSize_init
  a_BadSize_part : PySem.W.findIn K (.ref a.BadSize) "part" = some none
def SameBut (d : Addr) (H H' : Hp) : Prop := ∀ b o, b ≠ d → H b = some o → H' b = some o
theorem SameBut.of {d : Addr} {H H' : Hp} (s : Same H H') : SameBut d H H' := fun b o _ e => s b o e
theorem SameBut.trans {d : Addr} {H H1 H2 : Hp} (x : SameBut d H H1) (y : SameBut d H1 H2) : SameBut d H H2 := fun b o n e => y b o n (x b o n e)
theorem SameBut.upd {d : Addr} {H : Hp} {o : HO} : SameBut d H (upd H d o) := fun b u n e => by rw [upd_ne n]; exact e
theorem same_new {H : Hp} {p : Addr} {o : HO} (h : H p = none) : Same H (upd H p o) := fun b u e => by rw [upd_ne (ne_of_none e h)]; exact e
theorem dp_ints {K : PySem.W.Frag} {H : Hp} : ∀ ns : List Int, DpAll K H (ns.map V.int) (ns.map PyData.int)
  | [] => .nil
  | i :: r => .cons (.int i) (dp_ints r)
theorem lay_ints : ∀ ns : List Int, PyData.canLayAll0 (ns.map PyData.int) = true ∧ PyData.depthAll (ns.map PyData.int) ≤ 1
  | [] => ⟨rfl, by simp [PyData.depthAll]⟩
  | i :: r => by
    obtain ⟨h1, h2⟩ := lay_ints r
    refine ⟨by simp only [List.map_cons, PyData.canLayAll0, PyData.canLay0, h1]; rfl, ?_⟩
    simp only [List.map_cons, PyData.depthAll, PyData.depth]
    omega
theorem shaped_ints (ns : List Int) : SeqAt.shaped (.list (ns.map PyData.int)) = true := by
  obtain ⟨h1, h2⟩ := lay_ints ns
  refine Bool.and_eq_true_iff.mpr ⟨h1, decide_eq_true ?_⟩
  simp only [PyData.depth]
  omega
theorem eqv_ints (ns : List Int) : PyData.eqv (.list (ns.map PyData.int)) (.list []) = decide (ns = []) := by
  cases ns with
  | nil => simp [PyData.eqv, PyData.eqvAll]
  | cons i r => simp [PyData.eqv, PyData.eqvAll]
/-! ### the pen that draws: its cells' list at c, the index of the next one, the rest of a great cell -/
def Pen (H : Hp) (p c : Addr) (n : Int) : Prop := ∃ (ns : List Int) (b r : Int), H p = some (.lst [.ref c, .int b, .int r]) ∧ H c = some (.lst (ns.map V.int)) ∧ c ≠ p ∧ ns.length ≤ 63 ∧ 0 ≤ b ∧ b ≤ n ∧ 0 ≤ r
theorem Pen.same {H H' : Hp} {p c : Addr} {n : Int} (x : Pen H p c n) (s : Same H H') : Pen H' p c n := by
  obtain ⟨ns, b, r, h1, h2, h⟩ := x
  exact ⟨ns, b, r, s _ _ h1, s _ _ h2, h⟩
theorem atI_any {xs : List V} {z : Int} (h0 : 0 ≤ z) (h1 : z < xs.length) : ∃ v, v ∈ xs ∧ atI xs z = some v := by
  obtain ⟨k, rfl⟩ : ∃ k : Nat, z = (k : Int) := ⟨z.toNat, by omega⟩
  have hk : k < xs.length := by omega
  exact ⟨xs[k], List.getElem_mem hk, atI_nat (List.getElem?_eq_getElem hk)⟩
theorem great0 {c : Int} (h : (10 : Int) ^ Int.toNat 18 ≤ if c < 0 then -c else c) : 0 ≤ 2 * ((if c < 0 then -c else c) - 10 ^ Int.toNat 18) + (if decide (c < 0) = true then 1 else 0) := by
  split <;> split <;> omega
theorem pow1 {c b : Int} (h0 : 0 ≤ b) (h1 : b < 1048576) : (c % 2147483563 + 41701 * b + 589).natAbs < 2 ^ 64 := by
  have a := Int.emod_nonneg c (show (2147483563 : Int) ≠ 0 by decide)
  have d := Int.emod_lt_of_pos c (show (0 : Int) < 2147483563 by decide)
  have e : (2 : Nat) ^ 64 = 18446744073709551616 := by decide
  rw [e]
  omega
theorem pA : (0 : Int) < 2147483563 := by decide
theorem pB : (0 : Int) < 2147483647 := by decide
theorem pC : (0 : Int) < 2147483587 := by decide
theorem lo64 {x : Int} (h : 0 ≤ x) : -(2 ^ 64) < x := by omega
theorem hi64 {x : Int} (h : x < 2147483647) : x < 2 ^ 64 := by omega
theorem pow2 {M b : Int} (m0 : 0 ≤ M) (m1 : M < 2147483647) (h0 : 0 ≤ b) (h1 : b < 1048576) : (M * (2 * b + 93) + 50561 * b * b + 9017).natAbs < 2 ^ 64 := by
  have e : (2 : Nat) ^ 64 = 18446744073709551616 := by decide
  have a1 : M * (2 * b + 93) ≤ 2147483647 * 2097245 := Int.mul_le_mul (by omega) (by omega) (by omega) (by omega)
  have a0 : 0 ≤ M * (2 * b + 93) := Int.mul_nonneg m0 (by omega)
  have b1 : 50561 * b * b ≤ 53017051136 * 1048576 := Int.mul_le_mul (by omega) (by omega) h0 (by omega)
  have b0 : 0 ≤ 50561 * b * b := Int.mul_nonneg (by omega) h0
  rw [e]
  omega
def spPDraw : Sp := fun vs H Q _ => ∃ (p c : Addr) (m n : Int), vs = [.ref p, .int m] ∧ Pen H p c n ∧ n < 1048576 ∧ 0 < m ∧ m < 1073741824 ∧ ∀ (z : Int) (H' : Hp), 0 ≤ z → z < m → SameBut p H H' → Pen H' p c (n + 1) → Q (.int z) H'
section
variable {P : Program} {w : World} {K : PySem.W.Frag} {mg : Str → Option Value} {base : Heap} {a : Adr}
set_option maxHeartbeats 4000000
theorem ok_pdraw (T : Txt K mg a) : FnR P w K mg base CX0 1 a._law_draw spPDraw := by
  refine T.d__law_draw.ok sc__law_draw (fun _ _ _ _ _ _ us hl => match us, hl with | [_, _], _ => rfl) (fun vs H Q E h => by obtain ⟨p, c, m, n, rfl, _⟩ := h; rfl) (fun cdv A outer s H vs Q E hr h => ?_)
  obtain ⟨p, c, m, n, rfl, ⟨ns, b, r, hp, hc, hcp, hns, hb, hbn, hr0⟩, hn, hm, hm2, k⟩ := h
  have hu := hu_of hr
  refine ⟨_, (pss_cons (ps_if (pt_cmpR op_gt (pe_ix ix_list (pv 0) pe_int (fun _ _ => rfl)) pe_int (nomark _))
          (pss_cons (ps_set (i := 2) sc__law_draw.nd rfl (Or.inl rfl) (pe_op op_mod (pe_callTy call_int1 (by rfl) T.n_int (by decide +kernel) (pa_cons (pe_ix ix_list (pv 0) pe_int (fun _ _ => rfl)) pa_nil)) (pv 1)))
          (pss_cons (ps_asg (pe_op op_fdiv (pe_ix ix_list (pv 0) pe_int (fun _ _ => rfl)) (pv 1)) (pg_sub (pv 0) pe_int set_list))
          (pss_one (ps_ret (pv 2)))))
          pss_nil)
      (pss_cons (ps_set (i := 3) sc__law_draw.nd rfl (Or.inl rfl) (pe_ix ix_list (pv 0) pe_int (fun _ _ => rfl)))
      (pss_cons (ps_asg (pe_op op_add (pv 3) pe_int) (pg_sub (pv 0) pe_int set_list))
      (pss_cons (ps_set (i := 4) sc__law_draw.nd rfl (Or.inl rfl) (pe_op op_add (pe_op op_mul pe_int (pv 3)) pe_int))
      (pss_cons (ps_if (pt_cmpR (op_neD hr.units) (pe_ix ix_list (pv 0) pe_int (fun _ _ => rfl)) (pe_lst pa_nil) (nomark _))
          (pss_one (ps_set (i := 4) sc__law_draw.nd rfl (Or.inl rfl) (pe_ix ix_list (pe_ix ix_list (pv 0) pe_int (fun _ _ => rfl)) (pe_op op_mod (pe_callTy call_int1 (by rfl) T.n_int (by decide +kernel) (pa_cons (pv 3) pa_nil)) (pe_callB call_len_seq (by rfl) T.n_len (by decide +kernel) (pa_cons (pe_ix ix_list (pv 0) pe_int (fun _ _ => rfl)) pa_nil))) (fun _ _ => rfl))))
          pss_nil)
      (pss_cons (ps_if (PW.pt (pw_and (pt_cmpR op_lt (pv 3) (pe_callB call_len_seq (by rfl) T.n_len (by decide +kernel) (pa_cons (pe_ix ix_list (pv 0) pe_int (fun _ _ => rfl)) pa_nil)) (nomark _)) (pw_and1 (pt_cmpR op_ge (pe_callB call_abs (by rfl) T.n_abs (by decide +kernel) (pa_cons (pv 4) pa_nil)) (pe_op op_pow pe_int pe_int) (nomark _)))))
          (pss_cons (ps_set (i := 5) sc__law_draw.nd rfl (Or.inl rfl) (pe_op op_add (pe_op op_mul pe_int (pe_op op_sub (pe_callB call_abs (by rfl) T.n_abs (by decide +kernel) (pa_cons (pv 4) pa_nil)) (pe_op op_pow pe_int pe_int))) (pe_callTy call_int1 (by rfl) T.n_int (by decide +kernel) (pa_cons (pe_cmpR op_lt (pv 4) pe_int (nomark _)) pa_nil))))
          (pss_cons (ps_asg (pe_op op_fdiv (pv 5) (pv 1)) (pg_sub (pv 0) pe_int set_list))
          (pss_one (ps_ret (pe_op op_mod (pe_callTy call_int1 (by rfl) T.n_int (by decide +kernel) (pa_cons (pv 5) pa_nil)) (pv 1))))))
          pss_nil)
      (pss_cons (ps_set (i := 6) sc__law_draw.nd rfl (Or.inl rfl) (pe_op op_mod (pe_callTy call_int1 (by rfl) T.n_int (by decide +kernel) (pa_cons (pe_op op_pow (pe_op op_add (pe_op op_add (pe_op op_mod (pe_callTy call_int1 (by rfl) T.n_int (by decide +kernel) (pa_cons (pv 4) pa_nil)) pe_int) (pe_op op_mul pe_int (pv 3))) pe_int) pe_int) pa_nil)) pe_int))
      (pss_cons (ps_set (i := 6) sc__law_draw.nd rfl (Or.inl rfl) (pe_op op_mod (pe_callTy call_int1 (by rfl) T.n_int (by decide +kernel) (pa_cons (pe_op op_pow (pe_op op_add (pe_op op_add (pe_op op_mul (pv 6) (pe_op op_add (pe_op op_mul pe_int (pv 3)) pe_int)) (pe_op op_mul (pe_op op_mul pe_int (pv 3)) (pv 3))) pe_int) pe_int) pa_nil)) pe_int))
      (pss_one (ps_ret (pe_op op_mod (pe_callTy call_int1 (by rfl) T.n_int (by decide +kernel) (pa_cons (pe_op op_fdiv (pv 6) pe_int) pa_nil)) (pv 1)))))))))))), ?_⟩
  refine ⟨_, rfl, p, _, _, _, rfl, rfl, SqL.of hp, rfl, _, _, rfl, rfl, _, rfl, ite2 (fun h0 => ?_) fun h0 => ?_⟩
  · refine ⟨_, rfl, p, _, _, _, rfl, rfl, SqL.of hp, rfl, .inl ⟨_, rfl, _, rfl, _, _, rfl, rfl, hm, ?_⟩⟩
    refine ⟨_, rfl, p, _, _, _, rfl, rfl, SqL.of hp, rfl, _, rfl, _, _, rfl, rfl, ⟨hm, hm2⟩, ?_⟩
    refine ⟨_, rfl, p, _, 2, 2, rfl, rfl, hp, rfl, _, rfl, ?_⟩
    exact k _ _ (Int.emod_nonneg _ (by omega)) (Int.emod_lt_of_pos _ hm) SameBut.upd ⟨ns, b, r / m, upd_same, by rw [upd_ne hcp]; exact hc, hcp, hns, hb, by omega, Int.ediv_nonneg hr0 (by omega)⟩
  · refine ⟨_, rfl, p, _, _, _, rfl, rfl, SqL.of hp, rfl, ?_⟩
    refine ⟨_, rfl, _, _, rfl, rfl, _, rfl, p, _, 1, 1, rfl, rfl, hp, rfl, ?_⟩
    refine ⟨_, rfl, _, _, rfl, rfl, .inl ⟨by decide, by decide⟩, _, _, rfl, rfl, ?_⟩
    have e1 : upd H p (.lst [.ref c, .int (b + 1), .int r]) p = some (.lst [.ref c, .int (b + 1), .int r]) := upd_same
    have c1 : upd H p (.lst [.ref c, .int (b + 1), .int r]) c = some (.lst (ns.map V.int)) := by rw [upd_ne hcp]; exact hc
    have s1 : SameBut p H (upd H p (.lst [.ref c, .int (b + 1), .int r])) := SameBut.upd
    show tSeq _ _ _ _ (upd H p (.lst [.ref c, .int (b + 1), .int r]))
    generalize upd H p (.lst [.ref c, .int (b + 1), .int r]) = H1 at *
    refine ⟨_, rfl, p, _, _, _, rfl, rfl, SqL.of e1, rfl, (by show 0 ≤ sizeLine; decide), fun q hq => ?_⟩
    have mq := same_new (o := .lst []) hq
    refine ⟨.list (ns.map .int), .list [], .lst (SqL.of (mq _ _ c1)) (dp_ints ns), .lst (SqL.of upd_same) .nil, shaped_ints ns, rfl, _, rfl, ?_⟩
    rw [eqv_ints]
    have e2 := mq _ _ e1
    have c2 := mq _ _ c1
    have s2 := s1.trans (SameBut.of mq)
    clear e1 c1 s1 mq hq
    generalize upd H1 q (.lst []) = H2 at *
    refine ite2 (fun hne => ?_) fun hne => ?_
    · have hlen : 0 < ns.length := by
        cases ns with
        | nil => rw [decide_eq_true rfl] at hne; cases hne
        | cons x y => exact Nat.succ_pos _
      obtain ⟨w, hw, hat⟩ := atI_any (xs := ns.map V.int) (z := b % (ns.length : Int)) (Int.emod_nonneg _ (by omega)) (by rw [List.length_map]; exact Int.emod_lt_of_pos _ (by omega))
      obtain ⟨cell, _, rfl⟩ := List.mem_map.mp hw
      refine ⟨_, rfl, p, _, _, _, rfl, rfl, SqL.of e2, rfl, _, rfl, .inl ⟨_, rfl, _, rfl, p, _, _, _, rfl, rfl, SqL.of e2, rfl, c, _, rfl, .inl (SqL.of c2), _, _, rfl, rfl, by rw [List.length_map]; omega, c, _, _, _, rfl, rfl, SqL.of c2, by rw [List.length_map]; exact hat, ?_⟩⟩
      refine ⟨_, rfl, _, rfl, p, _, _, _, rfl, rfl, SqL.of e2, rfl, c, _, rfl, .inl (SqL.of c2), _, _, rfl, rfl, _, rfl, ite2 (fun hb1 => ?_) fun hb1 => ?_⟩
      · refine ⟨_, rfl, _, rfl, _, _, rfl, rfl, ⟨by decide, by decide, by decide⟩, _, _, rfl, rfl, _, rfl, ite2 (fun hb2 => ?_) fun hb2 => ?_⟩
        · refine ⟨_, rfl, _, rfl, _, _, rfl, rfl, ⟨by decide, by decide, by decide⟩, _, _, rfl, rfl, _, _, rfl, rfl, .inl ⟨by decide, by decide⟩, _, rfl, _, _, rfl, rfl, .inr ⟨_, rfl, _, _, rfl, rfl, ?_⟩⟩
          refine ⟨_, rfl, _, rfl, _, _, rfl, rfl, ⟨hm, hm2⟩, _, rfl, p, _, 2, 2, rfl, rfl, e2, rfl, ?_⟩
          refine ⟨_, rfl, .inl ⟨_, rfl, _, rfl, _, _, rfl, rfl, hm, ?_⟩⟩
          have g0 := of_decide_eq_true hb2
          refine k _ _ (Int.emod_nonneg _ (by omega)) (Int.emod_lt_of_pos _ hm) (s2.trans SameBut.upd) ⟨ns, b + 1, _, upd_same, by rw [upd_ne hcp]; exact c2, hcp, hns, by omega, by omega, Int.ediv_nonneg (great0 g0) (by omega)⟩
        · refine ⟨_, rfl, .inl ⟨_, rfl, _, _, rfl, rfl, pA, _, rfl, _, _, rfl, rfl, .inl ⟨by decide, by decide⟩, _, _, rfl, rfl, _, _, rfl, rfl, _, _, rfl, rfl, ⟨by decide, by decide, pow1 hb (by omega)⟩, .inl ⟨_, rfl, _, _, rfl, rfl, pB, ?_⟩⟩⟩
          refine ⟨_, rfl, _, rfl, _, _, rfl, rfl, .inl ⟨by decide, by decide⟩, _, _, rfl, rfl, _, _, rfl, rfl, .inl ⟨lo64 (Int.emod_nonneg _ (by decide)), hi64 (Int.emod_lt_of_pos _ pB)⟩, _, rfl, _, _, rfl, rfl, .inl ⟨by decide, by decide⟩, _, rfl, _, _, rfl, rfl, .inr ⟨lo64 hb, by omega⟩, _, _, rfl, rfl, _, _, rfl, rfl, _, _, rfl, rfl, ⟨by decide, by decide, pow2 (Int.emod_nonneg _ (by decide)) (Int.emod_lt_of_pos _ pB) hb (by omega)⟩, .inl ⟨_, rfl, _, _, rfl, rfl, pC, ?_⟩⟩
          refine ⟨_, rfl, _, _, rfl, rfl, ⟨by decide, by decide⟩, .inl ⟨_, rfl, _, rfl, _, _, rfl, rfl, hm, ?_⟩⟩
          exact k _ _ (Int.emod_nonneg _ (by omega)) (Int.emod_lt_of_pos _ hm) s2 ⟨ns, b + 1, r, e2, c2, hcp, hns, by omega, by omega, hr0⟩
      · refine iteF ?_
        refine ⟨_, rfl, .inl ⟨_, rfl, _, _, rfl, rfl, pA, _, rfl, _, _, rfl, rfl, .inl ⟨by decide, by decide⟩, _, _, rfl, rfl, _, _, rfl, rfl, _, _, rfl, rfl, ⟨by decide, by decide, pow1 hb (by omega)⟩, .inl ⟨_, rfl, _, _, rfl, rfl, pB, ?_⟩⟩⟩
        refine ⟨_, rfl, _, rfl, _, _, rfl, rfl, .inl ⟨by decide, by decide⟩, _, _, rfl, rfl, _, _, rfl, rfl, .inl ⟨lo64 (Int.emod_nonneg _ (by decide)), hi64 (Int.emod_lt_of_pos _ pB)⟩, _, rfl, _, _, rfl, rfl, .inl ⟨by decide, by decide⟩, _, rfl, _, _, rfl, rfl, .inr ⟨lo64 hb, by omega⟩, _, _, rfl, rfl, _, _, rfl, rfl, _, _, rfl, rfl, ⟨by decide, by decide, pow2 (Int.emod_nonneg _ (by decide)) (Int.emod_lt_of_pos _ pB) hb (by omega)⟩, .inl ⟨_, rfl, _, _, rfl, rfl, pC, ?_⟩⟩
        refine ⟨_, rfl, _, _, rfl, rfl, ⟨by decide, by decide⟩, .inl ⟨_, rfl, _, rfl, _, _, rfl, rfl, hm, ?_⟩⟩
        exact k _ _ (Int.emod_nonneg _ (by omega)) (Int.emod_lt_of_pos _ hm) s2 ⟨ns, b + 1, r, e2, c2, hcp, hns, by omega, by omega, hr0⟩
    · skip
      refine ⟨_, rfl, _, rfl, p, _, _, _, rfl, rfl, SqL.of e2, rfl, c, _, rfl, .inl (SqL.of c2), _, _, rfl, rfl, _, rfl, ite2 (fun hb1 => ?_) fun hb1 => ?_⟩
      · refine ⟨_, rfl, _, rfl, _, _, rfl, rfl, ⟨by decide, by decide, by decide⟩, _, _, rfl, rfl, _, rfl, ite2 (fun hb2 => ?_) fun hb2 => ?_⟩
        · refine ⟨_, rfl, _, rfl, _, _, rfl, rfl, ⟨by decide, by decide, by decide⟩, _, _, rfl, rfl, _, _, rfl, rfl, .inl ⟨by decide, by decide⟩, _, rfl, _, _, rfl, rfl, .inr ⟨_, rfl, _, _, rfl, rfl, ?_⟩⟩
          refine ⟨_, rfl, _, rfl, _, _, rfl, rfl, ⟨hm, hm2⟩, _, rfl, p, _, 2, 2, rfl, rfl, e2, rfl, ?_⟩
          refine ⟨_, rfl, .inl ⟨_, rfl, _, rfl, _, _, rfl, rfl, hm, ?_⟩⟩
          have g0 := of_decide_eq_true hb2
          refine k _ _ (Int.emod_nonneg _ (by omega)) (Int.emod_lt_of_pos _ hm) (s2.trans SameBut.upd) ⟨ns, b + 1, _, upd_same, by rw [upd_ne hcp]; exact c2, hcp, hns, by omega, by omega, Int.ediv_nonneg (great0 g0) (by omega)⟩
        · refine ⟨_, rfl, .inl ⟨_, rfl, _, _, rfl, rfl, pA, _, rfl, _, _, rfl, rfl, .inl ⟨by decide, by decide⟩, _, _, rfl, rfl, _, _, rfl, rfl, _, _, rfl, rfl, ⟨by decide, by decide, pow1 hb (by omega)⟩, .inl ⟨_, rfl, _, _, rfl, rfl, pB, ?_⟩⟩⟩
          refine ⟨_, rfl, _, rfl, _, _, rfl, rfl, .inl ⟨by decide, by decide⟩, _, _, rfl, rfl, _, _, rfl, rfl, .inl ⟨lo64 (Int.emod_nonneg _ (by decide)), hi64 (Int.emod_lt_of_pos _ pB)⟩, _, rfl, _, _, rfl, rfl, .inl ⟨by decide, by decide⟩, _, rfl, _, _, rfl, rfl, .inr ⟨lo64 hb, by omega⟩, _, _, rfl, rfl, _, _, rfl, rfl, _, _, rfl, rfl, ⟨by decide, by decide, pow2 (Int.emod_nonneg _ (by decide)) (Int.emod_lt_of_pos _ pB) hb (by omega)⟩, .inl ⟨_, rfl, _, _, rfl, rfl, pC, ?_⟩⟩
          refine ⟨_, rfl, _, _, rfl, rfl, ⟨by decide, by decide⟩, .inl ⟨_, rfl, _, rfl, _, _, rfl, rfl, hm, ?_⟩⟩
          exact k _ _ (Int.emod_nonneg _ (by omega)) (Int.emod_lt_of_pos _ hm) s2 ⟨ns, b + 1, r, e2, c2, hcp, hns, by omega, by omega, hr0⟩
      · refine iteF ?_
        refine ⟨_, rfl, .inl ⟨_, rfl, _, _, rfl, rfl, pA, _, rfl, _, _, rfl, rfl, .inl ⟨by decide, by decide⟩, _, _, rfl, rfl, _, _, rfl, rfl, _, _, rfl, rfl, ⟨by decide, by decide, pow1 hb (by omega)⟩, .inl ⟨_, rfl, _, _, rfl, rfl, pB, ?_⟩⟩⟩
        refine ⟨_, rfl, _, rfl, _, _, rfl, rfl, .inl ⟨by decide, by decide⟩, _, _, rfl, rfl, _, _, rfl, rfl, .inl ⟨lo64 (Int.emod_nonneg _ (by decide)), hi64 (Int.emod_lt_of_pos _ pB)⟩, _, rfl, _, _, rfl, rfl, .inl ⟨by decide, by decide⟩, _, rfl, _, _, rfl, rfl, .inr ⟨lo64 hb, by omega⟩, _, _, rfl, rfl, _, _, rfl, rfl, _, _, rfl, rfl, ⟨by decide, by decide, pow2 (Int.emod_nonneg _ (by decide)) (Int.emod_lt_of_pos _ pB) hb (by omega)⟩, .inl ⟨_, rfl, _, _, rfl, rfl, pC, ?_⟩⟩
        refine ⟨_, rfl, _, _, rfl, rfl, ⟨by decide, by decide⟩, .inl ⟨_, rfl, _, rfl, _, _, rfl, rfl, hm, ?_⟩⟩
        exact k _ _ (Int.emod_nonneg _ (by omega)) (Int.emod_lt_of_pos _ hm) s2 ⟨ns, b + 1, r, e2, c2, hcp, hns, by omega, by omega, hr0⟩
theorem cut63 {ns : List Int} (h : ns.length ≤ 63) : cutV (ns.map V.int) none (some 63) = ns.map V.int := by
  have e1 : HT.sIx (ns.map V.int).length 0 none = 0 := rfl
  have e2 : (ns.map V.int).length ≤ HT.sIx (ns.map V.int).length (ns.map V.int).length (some 63) := by
    rw [List.length_map]
    unfold HT.sIx
    simp
    omega
  unfold cutV
  rw [e1, List.drop_zero, Nat.sub_zero]
  exact List.take_of_length_le e2
def spPen (K : PySem.W.Frag) : Sp := fun vs H Q _ => ∃ (sa : Addr) (ns : List Int), vs = [.ref sa] ∧ SqL K H sa (ns.map V.int) ∧ ns.length ≤ 63 ∧ ∀ (p c : Addr) (H' : Hp), Same H H' → H p = none → Pen H' p c 0 → Q (.ref p) H'
theorem ok_pen (T : Txt K mg a) : FnR P w K mg base CX0 1 a._law_pen (spPen K) := by
  refine T.d__law_pen.ok sc__law_pen (fun _ _ _ _ _ _ us hl => match us, hl with | [_], _ => rfl) (fun vs H Q E h => by obtain ⟨sa, ns, rfl, _⟩ := h; rfl) (fun cdv A outer s H vs Q E hr h => ?_)
  obtain ⟨sa, ns, rfl, hS, hns, k⟩ := h
  refine ⟨_, (pss_one (ps_ret (pe_lst (pa_cons (pe_callTy call_list_of (by rfl) T.n_list (by decide +kernel) (pa_cons (pe_slice sl_list (pv 0) po_none (po_some pe_int)) pa_nil)) (pa_cons pe_int (pa_cons pe_int pa_nil)))))), ?_⟩
  refine ⟨_, rfl, _, rfl, sa, _, rfl, hS, fun q hq => ?_⟩
  rw [cut63 hns]
  refine ⟨q, _, rfl, .inl (SqL.of upd_same), fun c hc => ⟨(by show 3 ≤ sizeLine; decide), fun p hp => ?_⟩⟩
  have m1 := same_new (o := .lst (ns.map V.int)) hq
  have m2 := same_new (o := .lst (ns.map V.int)) hc
  have m3 := same_new (o := .lst [.ref c, .int 0, .int 0]) hp
  have ec : upd (upd (upd H q (.lst (ns.map V.int))) c (.lst (ns.map V.int))) p (.lst [.ref c, .int 0, .int 0]) c = some (.lst (ns.map V.int)) := m3 _ _ upd_same
  refine k p c _ (m1.trans (m2.trans m3)) ?_ ⟨ns, 0, 0, upd_same, ec, ?_, hns, by decide, by decide, by decide⟩
  · cases e : H p with
    | none => rfl
    | some o =>
      have z := m2 _ _ (m1 _ _ e)
      rw [hp] at z
      cases z
  · intro e
    rw [e, upd_same] at hp
    cases hp
def spPick : Sp := fun vs H Q _ => ∃ (p c l : Addr) (n : Int) (xs : List V), vs = [.ref p, .ref l] ∧ Pen H p c n ∧ n < 1048576 ∧ H l = some (.lst xs) ∧ l ≠ p ∧ 0 < xs.length ∧ xs.length < 1073741824 ∧ ∀ (v : V) (H' : Hp), v ∈ xs → SameBut p H H' → Pen H' p c (n + 1) → Q v H'
theorem ok_pick (T : Txt K mg a) : FnR P w K mg base CX0 2 a._law_pick spPick := by
  have G__law_draw : FnR P w K mg base CX0 1 a._law_draw spPDraw := ok_pdraw T
  refine T.d__law_pick.ok sc__law_pick (fun _ _ _ _ _ _ us hl => match us, hl with | [_, _], _ => rfl) (fun vs H Q E h => by obtain ⟨p, c, l, n, xs, rfl, _⟩ := h; rfl) (fun cdv A outer s H vs Q E hr h => ?_)
  obtain ⟨p, c, l, n, xs, rfl, hP, hn, hl, hlp, h0, h1, k⟩ := h
  refine ⟨_, (pss_one (ps_ret (pe_ix ix_list (pv 1) (pe_callR G__law_draw (hr.mono (by decide)) T.m__law_draw T.k__law_draw pass0 (pa_cons (pv 0) (pa_cons (pe_callB call_len_seq (by rfl) T.n_len (by decide +kernel) (pa_cons (pv 1) pa_nil)) pa_nil))) (fun _ _ => rfl)))), ?_⟩
  refine ⟨_, rfl, _, rfl, _, rfl, l, _, rfl, .inl (SqL.of hl), p, c, xs.length, n, rfl, hP, hn, by omega, by omega, fun z H' z0 z1 sB hP' => ?_⟩
  obtain ⟨v, hv, hat⟩ := atI_any (xs := xs) z0 z1
  exact ⟨l, _, _, _, rfl, rfl, SqL.of (sB _ _ hlp hl), hat, k v H' hv sB hP'⟩
end
end Pf
end
section
namespace Pf
open PySem PySem.Spec PyProof.Rows L2 Ow StX
open SX (S)
def DigL (r : List Nat) : Prop := ∀ c ∈ r, 48 ≤ c ∧ c ≤ 57
structure Good (w : Nat) (rs : List (List Nat)) : Prop where
  l0 : 1 ≤ rs.length
  l1 : rs.length ≤ 200
  w0 : 1 ≤ w
  w1 : w ≤ 200
  row : ∀ r ∈ rs, r.length = w ∧ DigL r
abbrev rowsV (rs : List (List Nat)) : List V := rs.map fun r => V.str (S r)
def Pic (H : Hp) (C x : Addr) (rs : List (List Nat)) : Prop := ∃ dx t, H x = some (.ins C dx [("_rows", .ref t)]) ∧ H t = some (.tup (rowsV rs))
theorem Pic.same {H H' : Hp} {C x : Addr} {rs : List (List Nat)} (p : Pic H C x rs) (s : Same H H') : Pic H' C x rs := by
  obtain ⟨dx, t, h1, h2⟩ := p
  exact ⟨dx, t, s _ _ h1, s _ _ h2⟩
theorem Pic.ins {H : Hp} {C x : Addr} {rs : List (List Nat)} (p : Pic H C x rs) : InsAt H x C := by
  obtain ⟨dx, t, h1, h2⟩ := p
  exact ⟨dx, _, h1⟩
theorem dig_isDigit {c : Nat} (h : 48 ≤ c ∧ c ≤ 57) : Unicode.isDigit c = true := by
  obtain ⟨h1, h2⟩ := h
  rcases (by omega : c = 48 ∨ c = 49 ∨ c = 50 ∨ c = 51 ∨ c = 52 ∨ c = 53 ∨ c = 54 ∨ c = 55 ∨ c = 56 ∨ c = 57) with rfl | rfl | rfl | rfl | rfl | rfl | rfl | rfl | rfl | rfl <;> decide +kernel
theorem digL_ascii {r : List Nat} (h : DigL r) : Txt.isascii (S r) = true := by
  show (r.toArray.all fun c => decide (c < 128)) = true
  rw [← Array.all_toList]
  exact List.all_eq_true.mpr fun c hc => decide_eq_true (by have := h c hc; omega)
theorem digL_digit {r : List Nat} (h : DigL r) (h0 : 1 ≤ r.length) : Txt.isdigit (S r) = true := by
  show (decide ((S r).length > 0) && r.toArray.all fun c => Unicode.isDigit c) = true
  rw [← Array.all_toList, SX.S_len, Bool.and_eq_true]
  exact ⟨decide_eq_true (by omega), List.all_eq_true.mpr fun c hc => dig_isDigit (h c hc)⟩
theorem size200 {n : Nat} (h : n ≤ 200) : n ≤ sizeLine := Nat.le_trans h (by decide +kernel)
def spIntIn (K : PySem.W.Frag) : Sp := fun vs H Q _ => ∃ v lo hi, vs = [v, .int lo, .int hi] ∧ ((∃ i, v = .int i ∧ Q (.bl (decide (lo ≤ i) && decide (i < hi))) H) ∨ (NoInt K H v ∧ Q (.bl false) H))
def spIsCol (K : PySem.W.Frag) : Sp := fun vs H Q _ => ∃ v, vs = [v] ∧ ((∃ i, v = .int i ∧ Q (.bl (decide (0 ≤ i) && decide (i < 10))) H) ∨ (NoInt K H v ∧ Q (.bl false) H))
section
variable {P : Program} {w : World} {K : PySem.W.Frag} {mg : Str → Option Value} {base : Heap} {a : Adr}
set_option maxHeartbeats 4000000
theorem ok_intV (T : Txt K mg a) : FnR P w K mg base CX0 1 a.is_int (spIntV K) := by
  refine T.d_is_int.ok sc_is_int (fun _ _ _ _ _ _ us hl => match us, hl with | [_], _ => rfl) (fun vs H Q E h => by obtain ⟨v, rfl, _⟩ := h; rfl) (fun cdv A outer s H vs Q E hr h => ?_)
  obtain ⟨v, rfl, h⟩ := h
  refine ⟨_, (pss_one (ps_ret (pe_and (pe_callB call_isi (by rfl) T.n_isinstance (by decide +kernel) (pa_cons (pv 0) (pa_cons (pe_bltn (v := .ty "int") (by rfl) T.n_int (by decide +kernel) rfl) pa_nil))) (pe_one (pe_not (pe_callB call_isi (by rfl) T.n_isinstance (by decide +kernel) (pa_cons (pv 0) (pa_cons (pe_bltn (v := .ty "bool") (by rfl) T.n_bool (by decide +kernel) rfl) pa_nil)))))))), ?_⟩
  rcases h with ⟨i, rfl, k⟩ | ⟨⟨b, rfl⟩ | ⟨t, ht, hk⟩, k⟩
  · exact ⟨_, rfl, _, _, _, _, _, rfl, .ty _, .base (.int _), kit_int_int, true, rfl, _, rfl, _, _, _, _, _, rfl, .ty _, .base (.int _), kit_int_bool, false, rfl, k⟩
  · exact ⟨_, rfl, _, _, _, _, _, rfl, .ty _, .base (.bl _), kit_bool_int, true, rfl, _, rfl, _, _, _, _, _, rfl, .ty _, .base (.bl _), kit_self, true, rfl, k⟩
  · exact ⟨_, rfl, _, _, _, _, _, rfl, .ty _, ht, hk, false, rfl, k⟩
theorem ok_int_in (T : Txt K mg a) : FnR P w K mg base CX0 2 a.is_int_in (spIntIn K) := by
  have G_is_int : FnR P w K mg base CX0 1 a.is_int (spIntV K) := ok_intV T
  refine T.d_is_int_in.ok sc_is_int_in (fun _ _ _ _ _ _ us hl => match us, hl with | [_, _, _], _ => rfl) (fun vs H Q E h => by obtain ⟨v, lo, hi, rfl, _⟩ := h; rfl) (fun cdv A outer s H vs Q E hr h => ?_)
  obtain ⟨v, lo, hi, rfl, h⟩ := h
  refine ⟨_, (pss_one (ps_ret (pe_and (pe_callR G_is_int (hr.mono (by decide)) T.m_is_int T.k_is_int pass0 (pa_cons (pv 0) pa_nil)) (pe_one (pe_chain op_le op_lt (pv 1) (pv 0) (pv 2)))))), ?_⟩
  simp only [tSeq, tIfS, tTest, tB, tAnd, tOr, tNot, tAndV, tOrV, tNotV, tIf, tOp, tUn, tChain, rEq, rNe, rI0, rI, rU, tCallR, tCons, tNil, tC, tVar, tRet, tRetN, tTup_k, tLst_k, tCB, tNext, tAsg, gName, gTup, gCons, gNil, tDrop, tPar, tFld, ClX.tCVal, tPropR, rBin, rBinT, rNeOwn, rSetL_k, gSub, tMakeK_k, tMethR, rInO, tDNewK_k, tYes, wipe, tMakeR_k, tSMeth, tSMethK, rMulS, decide_true, tNever, sFld, rIsiT, and_false, rListOf, rTupOf, rLenSeq, rIxL, rIxT, rIxS, rCat_k, rRep_k, rSlL_k, rSlS, rNewStrs_k, rAppend_k, tBM, tBM0, tM0, tM1, tSl, tNoPart, tPart, tLc_k, tFor_k, iList, iTup, iEnumT, iRng1, iRng2, iRng2L, iStr, L2.start, List.map, List.length_cons, List.length_nil, List.cons_append, List.nil_append, List.getElem?_cons_succ, List.getElem?_cons_zero, Option.some.injEq, V.int.injEq, V.bl.injEq, V.str.injEq, V.ref.injEq, exists_eq_left', exists_eq_left, and_assoc, exists_and_left, exists_eq, exists_eq', true_and, and_true, List.set_cons_zero, List.set_cons_succ, List.set, decide_eq_true_eq, Bool.not_eq_true', if_true, if_false, rIx, cx_K, nox_K, List.replicate_succ, List.replicate_zero, Nat.reduceSub, Bool.true_eq_false, Bool.false_eq_true, Nat.reduceAdd, List.cons.injEq, reduceCtorEq, false_and, false_or, or_false, tAug, rSetO, rJoin, rInDT, rRepT1]
  rcases h with ⟨i, rfl, k⟩ | ⟨hn, k⟩
  · refine ⟨_, rfl, .inl ⟨i, rfl, true, rfl, ?_⟩⟩
    simp only [tSeq, tIfS, tTest, tB, tAnd, tOr, tNot, tAndV, tOrV, tNotV, tIf, tOp, tUn, tChain, rEq, rNe, rI0, rI, rU, tCallR, tCons, tNil, tC, tVar, tRet, tRetN, tTup_k, tLst_k, tCB, tNext, tAsg, gName, gTup, gCons, gNil, tDrop, tPar, tFld, ClX.tCVal, tPropR, rBin, rBinT, rNeOwn, rSetL_k, gSub, tMakeK_k, tMethR, rInO, tDNewK_k, tYes, wipe, tMakeR_k, tSMeth, tSMethK, rMulS, decide_true, tNever, sFld, rIsiT, and_false, rListOf, rTupOf, rLenSeq, rIxL, rIxT, rIxS, rCat_k, rRep_k, rSlL_k, rSlS, rNewStrs_k, rAppend_k, tBM, tBM0, tM0, tM1, tSl, tNoPart, tPart, tLc_k, tFor_k, iList, iTup, iEnumT, iRng1, iRng2, iRng2L, iStr, L2.start, List.map, List.length_cons, List.length_nil, List.cons_append, List.nil_append, List.getElem?_cons_succ, List.getElem?_cons_zero, Option.some.injEq, V.int.injEq, V.bl.injEq, V.str.injEq, V.ref.injEq, exists_eq_left', exists_eq_left, and_assoc, exists_and_left, exists_eq, exists_eq', true_and, and_true, List.set_cons_zero, List.set_cons_succ, List.set, decide_eq_true_eq, Bool.not_eq_true', if_true, if_false, rIx, cx_K, nox_K, List.replicate_succ, List.replicate_zero, Nat.reduceSub, Bool.true_eq_false, Bool.false_eq_true, Nat.reduceAdd, List.cons.injEq, reduceCtorEq, false_and, false_or, or_false, tAug, rSetO, rJoin, rInDT, rRepT1]
    by_cases h : lo ≤ i
    · simpa [h] using k
    · simpa [h] using k
  · exact ⟨_, rfl, .inr ⟨hn, false, rfl, k⟩⟩
theorem ok_is_colour (T : Txt K mg a) : FnR P w K mg base CX0 3 a.is_colour (spIsCol K) := by
  have G_is_int_in : FnR P w K mg base CX0 2 a.is_int_in (spIntIn K) := ok_int_in T
  refine T.d_is_colour.ok sc_is_colour (fun _ _ _ _ _ _ us hl => match us, hl with | [_], _ => rfl) (fun vs H Q E h => by obtain ⟨v, rfl, _⟩ := h; rfl) (fun cdv A outer s H vs Q E hr h => ?_)
  obtain ⟨v, rfl, h⟩ := h
  refine ⟨_, (pss_one (ps_ret (pe_callR G_is_int_in (hr.mono (by decide)) T.m_is_int_in T.k_is_int_in pass0 (pa_cons (pv 0) (pa_cons pe_int (pa_cons pe_int pa_nil)))))), ?_⟩
  simp only [tSeq, tIfS, tTest, tB, tAnd, tOr, tNot, tAndV, tOrV, tNotV, tIf, tOp, tUn, tChain, rEq, rNe, rI0, rI, rU, tCallR, tCons, tNil, tC, tVar, tRet, tRetN, tTup_k, tLst_k, tCB, tNext, tAsg, gName, gTup, gCons, gNil, tDrop, tPar, tFld, ClX.tCVal, tPropR, rBin, rBinT, rNeOwn, rSetL_k, gSub, tMakeK_k, tMethR, rInO, tDNewK_k, tYes, wipe, tMakeR_k, tSMeth, tSMethK, rMulS, decide_true, tNever, sFld, rIsiT, and_false, rListOf, rTupOf, rLenSeq, rIxL, rIxT, rIxS, rCat_k, rRep_k, rSlL_k, rSlS, rNewStrs_k, rAppend_k, tBM, tBM0, tM0, tM1, tSl, tNoPart, tPart, tLc_k, tFor_k, iList, iTup, iEnumT, iRng1, iRng2, iRng2L, iStr, L2.start, List.map, List.length_cons, List.length_nil, List.cons_append, List.nil_append, List.getElem?_cons_succ, List.getElem?_cons_zero, Option.some.injEq, V.int.injEq, V.bl.injEq, V.str.injEq, V.ref.injEq, exists_eq_left', exists_eq_left, and_assoc, exists_and_left, exists_eq, exists_eq', true_and, and_true, List.set_cons_zero, List.set_cons_succ, List.set, decide_eq_true_eq, Bool.not_eq_true', if_true, if_false, rIx, cx_K, nox_K, List.replicate_succ, List.replicate_zero, Nat.reduceSub, Bool.true_eq_false, Bool.false_eq_true, Nat.reduceAdd, List.cons.injEq, reduceCtorEq, false_and, false_or, or_false, tAug, rSetO, rJoin, rInDT, rRepT1]
  exact ⟨_, _, _, rfl, h⟩
end
/-- no colour -/
def BadC (K : PySem.W.Frag) (H : Hp) (v : V) : Prop := NoInt K H v ∨ ∃ i : Int, v = .int i ∧ ¬ (0 ≤ i ∧ i < 10)
def spChColE (K : PySem.W.Frag) (B : Addr) : Sp := fun vs H Q E => ∃ v, vs = [v] ∧ ((∃ i : Int, v = .int i ∧ 0 ≤ i ∧ i < 10 ∧ Q .non H) ∨ (BadC K H v ∧ Out1 B "value" H E v))
section
variable {P : Program} {w : World} {K : PySem.W.Frag} {mg : Str → Option Value} {base : Heap} {a : Adr}
set_option maxHeartbeats 4000000
theorem ok_badcolour (T : Txt K mg a) : ∃ fd, FnOk P w K mg base CX0 1 a.BadColour_init fd ["self", "value"] (spErr1 a.BadColour "value") ∧ Binds K fd ["self", "value"] [] := by
  refine T.d_BadColour_init.okB sc_BadColour_init (fun _ _ _ _ _ _ us hl => match us, hl with | [_, _], _ => rfl) (fun vs H Q E h => by obtain ⟨b, v, rfl, _⟩ := h; rfl) (fun cdv A outer s H vs Q E hr h => ?_)
  obtain ⟨b, v, rfl, hb, k⟩ := h
  exact ⟨_, (pss_one (ps_ost (pv 0) (pv 1))), _, rfl, _, rfl, b, _, rfl, T.e_BadColour.ox, T.a_BadColour_value, .inl ⟨hb, k⟩⟩
theorem ok_check_colourE (T : Txt K mg a) : FnR P w K mg base (CX P w) 4 a.check_colour (spChColE K a.BadColour) := by
  have G_is_colour : FnR P w K mg base CX0 3 a.is_colour (spIsCol K) := ok_is_colour T
  obtain ⟨_, O_BadColour, B_BadColour⟩ := ok_badcolour (P := P) (w := w) (base := base) T
  refine T.d_check_colour.okX sc_check_colour (fun _ _ _ _ _ _ us hl => match us, hl with | [_], _ => rfl) (fun vs H Q E h => by obtain ⟨v, rfl, _⟩ := h; rfl) (fun cdv A outer s H vs Q E hr h => ?_)
  obtain ⟨v, rfl, h⟩ := h
  refine ⟨_, (pss_one (ps_if (pt_not (pt_val (pe_callR G_is_colour (hr.mono (by decide)) T.m_is_colour T.k_is_colour pass0 (pa_cons (pv 0) pa_nil))))
          (pss_one (ps_raise rfl (takes_of rfl rfl rfl rfl) (pmk_oex T.e_BadColour.ox T.e_BadColour.iC T.e_BadColour.tI O_BadColour (hr.mono (by decide)) B_BadColour .nil pass0 rfl T.m_BadColour (pa_cons (pv 0) pa_nil))))
          pss_nil)), ?_⟩
  simp only [tSeq, tIfS, tTest, tB, tAnd, tOr, tNot, tAndV, tOrV, tNotV, tIf, tOp, tUn, tChain, rEq, rNe, rI0, rI, rU, tCallR, tCons, tNil, tC, tVar, tRet, tRetN, tTup_k, tLst_k, tCB, tNext, tAsg, gName, gTup, gCons, gNil, tDrop, tPar, tFld, ClX.tCVal, tPropR, rBin, rBinT, rNeOwn, rSetL_k, gSub, tMakeK_k, tMethR, rInO, tDNewK_k, tYes, wipe, tMakeR_k, tSMeth, tSMethK, rMulS, decide_true, tNever, sFld, rIsiT, and_false, rListOf, rTupOf, rLenSeq, rIxL, rIxT, rIxS, rCat_k, rRep_k, rSlL_k, rSlS, rNewStrs_k, rAppend_k, tBM, tBM0, tM0, tM1, tSl, tNoPart, tPart, tLc_k, tFor_k, iList, iTup, iEnumT, iRng1, iRng2, iRng2L, iStr, L2.start, List.map, List.length_cons, List.length_nil, List.cons_append, List.nil_append, List.getElem?_cons_succ, List.getElem?_cons_zero, Option.some.injEq, V.int.injEq, V.bl.injEq, V.str.injEq, V.ref.injEq, exists_eq_left', exists_eq_left, and_assoc, exists_and_left, exists_eq, exists_eq', true_and, and_true, List.set_cons_zero, List.set_cons_succ, List.set, decide_eq_true_eq, Bool.not_eq_true', if_true, if_false, rIx, cx_K, nox_K, List.replicate_succ, List.replicate_zero, Nat.reduceSub, Bool.true_eq_false, Bool.false_eq_true, Nat.reduceAdd, List.cons.injEq, reduceCtorEq, false_and, false_or, or_false, tAug, rSetO, rJoin, rInDT, rRepT1]
  rcases h with ⟨i, rfl, h0, h1, k⟩ | ⟨hn | ⟨i, rfl, hi⟩, k⟩
  · refine ⟨_, rfl, .inl ⟨i, rfl, ?_⟩⟩
    simpa [h0, h1] using k
  · refine ⟨_, rfl, .inr ⟨hn, false, rfl, ?_⟩⟩
    rw [if_pos rfl]
    exact ⟨_, rfl, err1_made k⟩
  · refine ⟨_, rfl, .inl ⟨i, rfl, ?_⟩⟩
    have e : (decide (0 ≤ i) && decide (i < 10)) = false := by
      by_cases h0 : 0 ≤ i
      · rw [decide_eq_false (fun z => hi ⟨h0, z⟩), Bool.and_false]
      · rw [decide_eq_false h0, Bool.false_and]
    rw [e]
    refine ⟨false, rfl, ?_⟩
    rw [if_pos rfl]
    exact ⟨_, rfl, err1_made k⟩
end
end Pf
end
section
namespace Pf
open PySem PySem.Spec PyProof.Rows L2 Ow StX
open SX (S)
theorem rowsV_get {rs : List (List Nat)} {i : Nat} {x : V} (h : (rowsV rs)[i]? = some x) : ∃ r, rs[i]? = some r ∧ x = .str (S r) := by
  rw [List.getElem?_map] at h
  cases q : rs[i]? with
  | none => rw [q] at h; cases h
  | some r => rw [q] at h; cases h; exact ⟨r, rfl, rfl⟩
theorem Good.at_ {w i : Nat} {rs : List (List Nat)} {r : List Nat} (g : Good w rs) (h : rs[i]? = some r) : r.length = w ∧ DigL r := g.row r (List.mem_of_getElem? h)
theorem at0 {rs : List (List Nat)} {w : Nat} (g : Good w rs) : ∃ r, rs[0]? = some r ∧ atI (rowsV rs) 0 = some (.str (S r)) := by
  cases rs with
  | nil => exact absurd g.l0 (by decide)
  | cons r t => exact ⟨r, rfl, atI_nat (j := 0) rfl⟩
theorem Good.len {w : Nat} {rs : List (List Nat)} {r : List Nat} (g : Good w rs) (h : r ∈ rs) : r.length ≤ 200 := by rw [(g.row r h).1]; exact g.w1
theorem rowsV_len (rs : List (List Nat)) : (rowsV rs).length = rs.length := List.length_map ..
/-- no integer of lo .. hi - 1 -/
def BadI (K : PySem.W.Frag) (lo hi : Int) (H : Hp) (v : V) : Prop := NoInt K H v ∨ ∃ i : Int, v = .int i ∧ ¬ (lo ≤ i ∧ i < hi)
theorem BadI.same {K : PySem.W.Frag} {lo hi : Int} {H H' : Hp} {v : V} (h : BadI K lo hi H v) (s : Same H H') : BadI K lo hi H' v := h.elim (fun h => .inl (h.same s)) .inr
def Out2 (B : Addr) (n m : Str) (H : Hp) (E : XK) (v u : V) : Prop := ∀ d, H d = none → E (.ref B) (some d) (upd H d (.xd [(m, u), (n, v)]))
/-- no pixel of w by h -/
def BadPx (K : PySem.W.Frag) (w h : Int) (H : Hp) (v u : V) : Prop := BadI K 0 w H v ∨ (∃ x : Int, v = .int x ∧ 0 ≤ x ∧ x < w ∧ BadI K 0 h H u)
theorem BadPx.same {K : PySem.W.Frag} {w h : Int} {H H' : Hp} {v u : V} (b : BadPx K w h H v u) (s : Same H H') : BadPx K w h H' v u := b.elim (fun b => .inl (b.same s)) fun ⟨x, e, h0, h1, b⟩ => .inr ⟨x, e, h0, h1, b.same s⟩
theorem dec_no {lo hi i : Int} (h : ¬ (lo ≤ i ∧ i < hi)) : (decide (lo ≤ i) && decide (i < hi)) = false := by
  by_cases h0 : lo ≤ i
  · rw [decide_eq_false (fun z => h ⟨h0, z⟩), Bool.and_false]
  · rw [decide_eq_false h0, Bool.false_and]
theorem intIn_bad {K : PySem.W.Frag} {lo hi : Int} {H : Hp} {v : V} {Q : VK} {E : XK} (h : BadI K lo hi H v) (k : Q (.bl false) H) : spIntIn K [v, .int lo, .int hi] H Q E := by
  rcases h with h | ⟨i, rfl, h⟩
  · exact ⟨_, _, _, rfl, .inr ⟨h, k⟩⟩
  · exact ⟨_, _, _, rfl, .inl ⟨i, rfl, by rw [dec_no h]; exact k⟩⟩
theorem intIn_ok {K : PySem.W.Frag} {lo hi i : Int} {H : Hp} {Q : VK} {E : XK} (h0 : lo ≤ i) (h1 : i < hi) (k : Q (.bl true) H) : spIntIn K [.int i, .int lo, .int hi] H Q E := ⟨_, _, _, rfl, .inl ⟨i, rfl, by rw [decide_eq_true h0, decide_eq_true h1]; exact k⟩⟩
def spChSideE (K : PySem.W.Frag) (B : Addr) : Sp := fun vs H Q E => ∃ (v : V) (m : Int) (z : Str), vs = [v, .str z, .int m] ∧ ((∃ i : Int, v = .int i ∧ 1 ≤ i ∧ i ≤ m ∧ Q .non H) ∨ (BadI K 1 (m + 1) H v ∧ Out1 B "part" H E (.str z)))
def spPixX (K : PySem.W.Frag) : Sp := fun vs H Q _ => ∃ (t : Addr) (w : Nat) (rs : List (List Nat)) (v u : V), vs = [.ref t, v, u] ∧ H t = some (.tup (rowsV rs)) ∧ Good w rs ∧
  ((∃ x y : Int, v = .int x ∧ u = .int y ∧ 0 ≤ x ∧ x < w ∧ 0 ≤ y ∧ y < rs.length ∧ Q (.bl true) H) ∨ (BadPx K w rs.length H v u ∧ Q (.bl false) H))
def spChPixE (K : PySem.W.Frag) (B : Addr) : Sp := fun vs H Q E => ∃ (t : Addr) (w : Nat) (rs : List (List Nat)) (v u : V), vs = [.ref t, v, u] ∧ H t = some (.tup (rowsV rs)) ∧ Good w rs ∧
  ((∃ x y : Int, v = .int x ∧ u = .int y ∧ 0 ≤ x ∧ x < w ∧ 0 ≤ y ∧ y < rs.length ∧ Q .non H) ∨ (BadPx K w rs.length H v u ∧ Out2 B "x" "y" H E v u))
section
variable {P : Program} {w : World} {K : PySem.W.Frag} {mg : Str → Option Value} {base : Heap} {a : Adr}
set_option maxHeartbeats 4000000
theorem ok_badsize (T : Txt K mg a) : ∃ fd, FnOk P w K mg base CX0 1 a.BadSize_init fd ["self", "part"] (spErr1 a.BadSize "part") ∧ Binds K fd ["self", "part"] [] := by
  refine T.d_BadSize_init.okB sc_BadSize_init (fun _ _ _ _ _ _ us hl => match us, hl with | [_, _], _ => rfl) (fun vs H Q E h => by obtain ⟨b, v, rfl, _⟩ := h; rfl) (fun cdv A outer s H vs Q E hr h => ?_)
  obtain ⟨b, v, rfl, hb, k⟩ := h
  exact ⟨_, (pss_one (ps_ost (pv 0) (pv 1))), _, rfl, _, rfl, b, _, rfl, T.e_BadSize.ox, T.a_BadSize_part, .inl ⟨hb, k⟩⟩
theorem ok_badpixel (T : Txt K mg a) : ∃ fd, FnOk P w K mg base CX0 1 a.BadPixel_init fd ["self", "x", "y"] (spErr2 a.BadPixel "x" "y") ∧ Binds K fd ["self", "x", "y"] [] := by
  refine T.d_BadPixel_init.okB sc_BadPixel_init (fun _ _ _ _ _ _ us hl => match us, hl with | [_, _, _], _ => rfl) (fun vs H Q E h => by obtain ⟨b, v, u, rfl, _⟩ := h; rfl) (fun cdv A outer s H vs Q E hr h => ?_)
  obtain ⟨b, v, u, rfl, hb, k⟩ := h
  refine ⟨_, (pss_cons (ps_ost (pv 0) (pv 1))
      (pss_one (ps_ost (pv 0) (pv 2)))), ?_⟩
  refine ⟨_, rfl, _, rfl, b, _, rfl, T.e_BadPixel.ox, T.a_BadPixel_x, .inl ⟨hb, fun d hd n => ?_⟩⟩
  refine ⟨_, rfl, _, rfl, b, _, rfl, T.e_BadPixel.ox, T.a_BadPixel_y, .inr ⟨d, [("x", v)], upd_same, by rw [upd_ne n]; exact upd_same, ?_⟩⟩
  refine ⟨by show 1 ≤ 900; decide, ?_⟩
  have e := k d hd n
  have z : upd (upd (upd H d (exd d [("x", v)])) b (exo b a.BadPixel (some d))) d (exd d [("y", u), ("x", v)]) = upd (upd H d (exd d [("y", u), ("x", v)])) b (exo b a.BadPixel (some d)) := by
    funext y
    by_cases e1 : y = d
    · subst e1
      rw [upd_same, upd_ne n, upd_same]
    · by_cases e2 : y = b
      · subst e2
        rw [upd_ne e1, upd_same, upd_same]
      · rw [upd_ne e1, upd_ne e2, upd_ne e1, upd_ne e2, upd_ne e1]
  exact z ▸ e
theorem ok_check_sideE (T : Txt K mg a) : FnR P w K mg base (CX P w) 3 a.check_side (spChSideE K a.BadSize) := by
  have G_is_int_in : FnR P w K mg base CX0 2 a.is_int_in (spIntIn K) := ok_int_in T
  obtain ⟨_, O_BadSize, B_BadSize⟩ := ok_badsize (P := P) (w := w) (base := base) T
  refine T.d_check_side.okX sc_check_side (fun _ _ _ _ _ _ us hl => match us, hl with | [_, _, _], _ => rfl) (fun vs H Q E h => by obtain ⟨v, m, z, rfl, _⟩ := h; rfl) (fun cdv A outer s H vs Q E hr h => ?_)
  obtain ⟨v, m, z, rfl, h⟩ := h
  refine ⟨_, (pss_one (ps_if (pt_not (pt_val (pe_callR G_is_int_in (hr.mono (by decide)) T.m_is_int_in T.k_is_int_in pass0 (pa_cons (pv 0) (pa_cons pe_int (pa_cons (pe_op op_add (pv 2) pe_int) pa_nil))))))
          (pss_one (ps_raise rfl (takes_of rfl rfl rfl rfl) (pmk_oex T.e_BadSize.ox T.e_BadSize.iC T.e_BadSize.tI O_BadSize (hr.mono (by decide)) B_BadSize .nil pass0 rfl T.m_BadSize (pa_cons (pv 1) pa_nil))))
          pss_nil)), ?_⟩
  simp only [tSeq, tIfS, tTest, tB, tAnd, tOr, tNot, tAndV, tOrV, tNotV, tIf, tOp, tUn, tChain, rEq, rNe, rI0, rI, rU, tCallR, tCons, tNil, tC, tVar, tRet, tRetN, tTup_k, tLst_k, tCB, tNext, tAsg, gName, gTup, gCons, gNil, tDrop, tPar, tFld, ClX.tCVal, tPropR, rBin, rBinT, rNeOwn, rSetL_k, gSub, tMakeK_k, tMethR, rInO, tDNewK_k, tYes, wipe, tMakeR_k, tSMeth, tSMethK, rMulS, decide_true, tNever, sFld, rIsiT, and_false, rListOf, rTupOf, rLenSeq, rIxL, rIxT, rIxS, rCat_k, rRep_k, rSlL_k, rSlS, rNewStrs_k, rAppend_k, tBM, tBM0, tM0, tM1, tSl, tNoPart, tPart, tLc_k, tFor_k, iList, iTup, iEnumT, iRng1, iRng2, iRng2L, iStr, L2.start, List.map, List.length_cons, List.length_nil, List.cons_append, List.nil_append, List.getElem?_cons_succ, List.getElem?_cons_zero, Option.some.injEq, V.int.injEq, V.bl.injEq, V.str.injEq, V.ref.injEq, exists_eq_left', exists_eq_left, and_assoc, exists_and_left, exists_eq, exists_eq', true_and, and_true, List.set_cons_zero, List.set_cons_succ, List.set, decide_eq_true_eq, Bool.not_eq_true', if_true, if_false, rIx, cx_K, nox_K, List.replicate_succ, List.replicate_zero, Nat.reduceSub, Bool.true_eq_false, Bool.false_eq_true, Nat.reduceAdd, List.cons.injEq, reduceCtorEq, false_and, false_or, or_false, tAug, rSetO, rJoin, rInDT, rRepT1]
  rcases h with ⟨i, rfl, h0, h1, k⟩ | ⟨hb, k⟩
  · exact intIn_ok h0 (by omega) ⟨_, rfl, k⟩
  · exact intIn_bad hb ⟨_, rfl, _, rfl, err1_made k⟩
theorem ok_is_pixelX (T : Txt K mg a) : FnR P w K mg base CX0 3 a.is_pixel (spPixX K) := by
  have G_is_int_in : FnR P w K mg base CX0 2 a.is_int_in (spIntIn K) := ok_int_in T
  refine T.d_is_pixel.ok sc_is_pixel (fun _ _ _ _ _ _ us hl => match us, hl with | [_, _, _], _ => rfl) (fun vs H Q E h => by obtain ⟨t, w, rs, v, u, rfl, _⟩ := h; rfl) (fun cdv A outer s H vs Q E hr h => ?_)
  obtain ⟨t, wd, rs, v, u, rfl, ht, g, h⟩ := h
  refine ⟨_, (pss_one (ps_ret (pe_and (pe_callR G_is_int_in (hr.mono (by decide)) T.m_is_int_in T.k_is_int_in pass0 (pa_cons (pv 1) (pa_cons pe_int (pa_cons (pe_callB call_len_str (by rfl) T.n_len (by decide +kernel) (pa_cons (pe_ix ix_tup (pv 0) pe_int (fun _ _ => rfl)) pa_nil)) pa_nil)))) (pe_one (pe_callR G_is_int_in (hr.mono (by decide)) T.m_is_int_in T.k_is_int_in pass0 (pa_cons (pv 2) (pa_cons pe_int (pa_cons (pe_callB call_len_seq (by rfl) T.n_len (by decide +kernel) (pa_cons (pv 0) pa_nil)) pa_nil)))))))), ?_⟩
  obtain ⟨r0, hr0, ha0⟩ := at0 g
  have hw0 := (g.at_ hr0).1
  have q1 := g.w1
  simp only [tSeq, tIfS, tTest, tB, tAnd, tOr, tNot, tAndV, tOrV, tNotV, tIf, tOp, tUn, tChain, rEq, rNe, rI0, rI, rU, tCallR, tCons, tNil, tC, tVar, tRet, tRetN, tTup_k, tLst_k, tCB, tNext, tAsg, gName, gTup, gCons, gNil, tDrop, tPar, tFld, ClX.tCVal, tPropR, rBin, rBinT, rNeOwn, rSetL_k, gSub, tMakeK_k, tMethR, rInO, tDNewK_k, tYes, wipe, tMakeR_k, tSMeth, tSMethK, rMulS, decide_true, tNever, sFld, rIsiT, and_false, rListOf, rTupOf, rLenSeq, rIxL, rIxT, rIxS, rCat_k, rRep_k, rSlL_k, rSlS, rNewStrs_k, rAppend_k, tBM, tBM0, tM0, tM1, tSl, tNoPart, tPart, tLc_k, tFor_k, iList, iTup, iEnumT, iRng1, iRng2, iRng2L, iStr, L2.start, List.map, List.length_cons, List.length_nil, List.cons_append, List.nil_append, List.getElem?_cons_succ, List.getElem?_cons_zero, Option.some.injEq, V.int.injEq, V.bl.injEq, V.str.injEq, V.ref.injEq, exists_eq_left', exists_eq_left, and_assoc, exists_and_left, exists_eq, exists_eq', true_and, and_true, List.set_cons_zero, List.set_cons_succ, List.set, decide_eq_true_eq, Bool.not_eq_true', if_true, if_false, rIx, cx_K, nox_K, List.replicate_succ, List.replicate_zero, Nat.reduceSub, Bool.true_eq_false, Bool.false_eq_true, Nat.reduceAdd, List.cons.injEq, reduceCtorEq, false_and, false_or, or_false, tAug, rSetO, rJoin, rInDT, rRepT1]
  refine ⟨_, .inl (.inl ht), _, ha0, _, rfl, by rw [SX.S_len, hw0]; exact size200 q1, ?_⟩
  rw [SX.S_len, hw0]
  have second : ∀ {c : Bool}, (c = true → ∃ y : Int, u = .int y ∧ 0 ≤ y ∧ y < rs.length) → (c = false → BadI K 0 rs.length H u) → Q (.bl c) H → ∃ x, (SqL K H t x ∨ SqT K H t x) ∧ spIntIn K [u, .int 0, .int (x.length : Nat)] H Q E0 := fun {c} k1 k2 k => by
    refine ⟨_, .inr (.inl (.inl ht)), ?_⟩
    rw [rowsV_len]
    cases c with
    | true =>
      obtain ⟨y, rfl, y0, y1⟩ := k1 rfl
      exact intIn_ok y0 y1 k
    | false => exact intIn_bad (k2 rfl) k
  rcases h with ⟨x, y, rfl, rfl, x0, x1, y0, y1, k⟩ | ⟨hb | ⟨x, rfl, x0, x1, hb⟩, k⟩
  · exact intIn_ok x0 x1 ⟨_, rfl, second (c := true) (fun _ => ⟨y, rfl, y0, y1⟩) (fun z => by cases z) k⟩
  · exact intIn_bad hb ⟨_, rfl, k⟩
  · exact intIn_ok x0 x1 ⟨_, rfl, second (c := false) (fun z => by cases z) (fun _ => hb) k⟩
theorem ok_check_pixelE (T : Txt K mg a) : FnR P w K mg base (CX P w) 4 a.check_pixel (spChPixE K a.BadPixel) := by
  have G_is_pixel : FnR P w K mg base CX0 3 a.is_pixel (spPixX K) := ok_is_pixelX T
  obtain ⟨_, O_BadPixel, B_BadPixel⟩ := ok_badpixel (P := P) (w := w) (base := base) T
  refine T.d_check_pixel.okX sc_check_pixel (fun _ _ _ _ _ _ us hl => match us, hl with | [_, _, _], _ => rfl) (fun vs H Q E h => by obtain ⟨t, w, rs, v, u, rfl, _⟩ := h; rfl) (fun cdv A outer s H vs Q E hr h => ?_)
  obtain ⟨t, wd, rs, v, u, rfl, ht, g, h⟩ := h
  refine ⟨_, (pss_one (ps_if (pt_not (pt_val (pe_callR G_is_pixel (hr.mono (by decide)) T.m_is_pixel T.k_is_pixel pass0 (pa_cons (pv 0) (pa_cons (pv 1) (pa_cons (pv 2) pa_nil))))))
          (pss_one (ps_raise rfl (takes_of rfl rfl rfl rfl) (pmk_oex T.e_BadPixel.ox T.e_BadPixel.iC T.e_BadPixel.tI O_BadPixel (hr.mono (by decide)) B_BadPixel .nil pass0 rfl T.m_BadPixel (pa_cons (pv 1) (pa_cons (pv 2) pa_nil)))))
          pss_nil)), ?_⟩
  simp only [tSeq, tIfS, tTest, tB, tAnd, tOr, tNot, tAndV, tOrV, tNotV, tIf, tOp, tUn, tChain, rEq, rNe, rI0, rI, rU, tCallR, tCons, tNil, tC, tVar, tRet, tRetN, tTup_k, tLst_k, tCB, tNext, tAsg, gName, gTup, gCons, gNil, tDrop, tPar, tFld, ClX.tCVal, tPropR, rBin, rBinT, rNeOwn, rSetL_k, gSub, tMakeK_k, tMethR, rInO, tDNewK_k, tYes, wipe, tMakeR_k, tSMeth, tSMethK, rMulS, decide_true, tNever, sFld, rIsiT, and_false, rListOf, rTupOf, rLenSeq, rIxL, rIxT, rIxS, rCat_k, rRep_k, rSlL_k, rSlS, rNewStrs_k, rAppend_k, tBM, tBM0, tM0, tM1, tSl, tNoPart, tPart, tLc_k, tFor_k, iList, iTup, iEnumT, iRng1, iRng2, iRng2L, iStr, L2.start, List.map, List.length_cons, List.length_nil, List.cons_append, List.nil_append, List.getElem?_cons_succ, List.getElem?_cons_zero, Option.some.injEq, V.int.injEq, V.bl.injEq, V.str.injEq, V.ref.injEq, exists_eq_left', exists_eq_left, and_assoc, exists_and_left, exists_eq, exists_eq', true_and, and_true, List.set_cons_zero, List.set_cons_succ, List.set, decide_eq_true_eq, Bool.not_eq_true', if_true, if_false, rIx, cx_K, nox_K, List.replicate_succ, List.replicate_zero, Nat.reduceSub, Bool.true_eq_false, Bool.false_eq_true, Nat.reduceAdd, List.cons.injEq, reduceCtorEq, false_and, false_or, or_false, tAug, rSetO, rJoin, rInDT, rRepT1]
  refine ⟨t, wd, rs, v, u, rfl, ht, g, ?_⟩
  rcases h with ⟨x, y, rfl, rfl, x0, x1, y0, y1, k⟩ | ⟨hb, k⟩
  · refine .inl ⟨x, y, rfl, rfl, x0, x1, y0, y1, ?_⟩
    exact ⟨_, rfl, k⟩
  · refine .inr ⟨hb, _, rfl, ?_⟩
    exact ⟨_, rfl, _, rfl, err2_made k⟩
end
end Pf
end
section
namespace Pf
open PySem PySem.Spec PyProof.Rows L2 Ow StX
open SX (S)
/-! ### what is handed as rows -/
def NoStr (K : PySem.W.Frag) (H : Hp) (v : V) : Prop := ∃ T : String, TyX K H v (.type T) ∧ PySem.W.kitOne K (.type T) (.type "str") = some false
theorem NoStr.same {K : PySem.W.Frag} {H H' : Hp} {v : V} (h : NoStr K H v) (s : Same H H') : NoStr K H' v := h.imp fun _ q => ⟨TyX.same q.1 s, q.2⟩
/-- a row of digits -/
def goodS (s : Str) : Bool := Txt.isascii s && Txt.isdigit s && decide ((s.length : Int) ≤ 200)
def okV (v0 v : V) : Bool := match v0, v with
  | .str s0, .str s => goodS s && decide (s.length = s0.length)
  | _, _ => false
theorem NoStr.ne {K : PySem.W.Frag} {H : Hp} {z : Str} (h : NoStr K H (.str z)) : False := by
  obtain ⟨T, ht, hk⟩ := h
  cases ht with
  | base h =>
    cases h
    rw [kit_self] at hk
    cases hk
theorem NoStr.ok {K : PySem.W.Frag} {H : Hp} {v0 v : V} (h : NoStr K H v) : okV v0 v = false := by
  cases v <;> first
    | exact h.ne.elim
    | (cases v0 <;> rfl)
def ItemK (K : PySem.W.Frag) (H : Hp) (v : V) : Prop := (∃ s : Str, v = .str s ∧ s.length ≤ 1000) ∨ NoStr K H v
theorem ItemK.same {K : PySem.W.Frag} {H H' : Hp} {v : V} (h : ItemK K H v) (s : Same H H') : ItemK K H' v := h.imp id fun h => h.same s
theorem find_at {p : V → Bool} : ∀ (xs : List V) (i : Nat) (v : V), (∀ j u, j < i → xs[j]? = some u → p u = false) → xs[i]? = some v → p v = true → xs.findIdx? p = some i
  | [], i, v, _, h, _ => by simp at h
  | x :: xs, 0, v, _, h, q => by
    simp only [List.getElem?_cons_zero, Option.some.injEq] at h
    subst h
    rw [List.findIdx?_cons, q]
    rfl
  | x :: xs, i + 1, v, hb, h, q => by
    rw [List.findIdx?_cons, hb 0 x (by omega) rfl]
    rw [if_neg (by decide), find_at xs i v (fun j u hj hu => hb (j + 1) u (by omega) (by simpa using hu)) (by simpa using h) q]
    rfl
theorem find_no {p : V → Bool} {xs : List V} (h : ∀ (j : Nat) (u : V), xs[j]? = some u → p u = false) : xs.findIdx? p = none := by
  rw [List.findIdx?_eq_none_iff]
  intro x hx
  obtain ⟨j, hj⟩ := List.getElem?_of_mem hx
  exact h j x hj
def spIsRowX (K : PySem.W.Frag) : Sp := fun vs H Q _ => ∃ v, vs = [v, .int 200] ∧ ((∃ s : Str, v = .str s ∧ s.length ≤ 1000 ∧ Q (.bl (goodS s)) H) ∨ (NoStr K H v ∧ Q (.bl false) H))
/-- the first wrong row -/
def wrongV (xs : List V) : Option Nat := match xs with
  | [] => none
  | v0 :: _ => xs.findIdx? fun v => !okV v0 v
def spWrongX (K : PySem.W.Frag) : Sp := fun vs H Q _ => ∃ (l : Addr) (xs : List V), vs = [.ref l, .int 200] ∧ (H l = some (.lst xs) ∨ H l = some (.tup xs)) ∧ xs.length ≤ 1000 ∧ (∀ x ∈ xs, ItemK K H x) ∧
  ∀ H', Same H H' → Q (match wrongV xs with | none => .non | some k => .int (k : Nat)) H'
section
variable {P : Program} {w : World} {K : PySem.W.Frag} {mg : Str → Option Value} {base : Heap} {a : Adr}
set_option maxHeartbeats 4000000
theorem ok_is_rowX (T : Txt K mg a) : FnR P w K mg base CX0 1 a.is_row (spIsRowX K) := by
  refine T.d_is_row.ok sc_is_row (fun _ _ _ _ _ _ us hl => match us, hl with | [_, _], _ => rfl) (fun vs H Q E h => by obtain ⟨v, rfl, _⟩ := h; rfl) (fun cdv A outer s H vs Q E hr h => ?_)
  obtain ⟨v, rfl, h⟩ := h
  refine ⟨_, (pss_one (ps_ret (pe_and (pe_callB call_isi (by rfl) T.n_isinstance (by decide +kernel) (pa_cons (pv 0) (pa_cons (pe_bltn (v := .ty "str") (by rfl) T.n_str (by decide +kernel) rfl) pa_nil))) (pe_and (pe_m0 PySem.F.slot_str_isascii PySem.F.type_str_isascii mt_isascii (pv 0)) (pe_and (pe_m0 PySem.F.slot_str_isdigit PySem.F.type_str_isdigit mt_isdigit (pv 0)) (pe_one (pe_cmpR op_le (pe_callB call_len_str (by rfl) T.n_len (by decide +kernel) (pa_cons (pv 0) pa_nil)) (pv 1) (nomark _)))))))), ?_⟩
  simp only [tSeq, tIfS, tTest, tB, tAnd, tOr, tNot, tAndV, tOrV, tNotV, tIf, tOp, tUn, tChain, rEq, rNe, rI0, rI, rU, tCallR, tCons, tNil, tC, tVar, tRet, tRetN, tTup_k, tLst_k, tCB, tNext, tAsg, gName, gTup, gCons, gNil, tDrop, tPar, tFld, ClX.tCVal, tPropR, rBin, rBinT, rNeOwn, rSetL_k, gSub, tMakeK_k, tMethR, rInO, tDNewK_k, tYes, wipe, tMakeR_k, tSMeth, tSMethK, rMulS, decide_true, tNever, sFld, rIsiT, and_false, rListOf, rTupOf, rLenSeq, rIxL, rIxT, rIxS, rCat_k, rRep_k, rSlL_k, rSlS, rNewStrs_k, rAppend_k, tBM, tBM0, tM0, tM1, tSl, tNoPart, tPart, tLc_k, tFor_k, iList, iTup, iEnumT, iRng1, iRng2, iRng2L, iStr, L2.start, List.map, List.length_cons, List.length_nil, List.cons_append, List.nil_append, List.getElem?_cons_succ, List.getElem?_cons_zero, Option.some.injEq, V.int.injEq, V.bl.injEq, V.str.injEq, V.ref.injEq, exists_eq_left', exists_eq_left, and_assoc, exists_and_left, exists_eq, exists_eq', true_and, and_true, List.set_cons_zero, List.set_cons_succ, List.set, decide_eq_true_eq, Bool.not_eq_true', if_true, if_false, rIx, cx_K, nox_K, List.replicate_succ, List.replicate_zero, Nat.reduceSub, Bool.true_eq_false, Bool.false_eq_true, Nat.reduceAdd, List.cons.injEq, reduceCtorEq, false_and, false_or, or_false, tAug, rSetO, rJoin, rInDT, rRepT1]
  rcases h with ⟨s, rfl, hs, k⟩ | ⟨⟨t, ht, hk⟩, k⟩
  · refine ⟨_, _, _, _, true, rfl, .ty _, .base (.str _), kit_self, _, rfl, ?_⟩
    unfold goodS at k
    rw [if_pos rfl]
    refine ⟨⟨_, rfl⟩, _, rfl, ?_⟩
    cases h1 : Txt.isascii s with
    | false =>
      rw [if_neg (by decide)]
      simpa [h1] using k
    | true =>
      rw [if_pos rfl]
      refine ⟨⟨_, rfl⟩, _, rfl, ?_⟩
      cases h2 : Txt.isdigit s with
      | false =>
        rw [if_neg (by decide)]
        simpa [h1, h2] using k
      | true =>
        rw [if_pos rfl]
        exact ⟨s, rfl, Nat.le_trans hs (by decide), by simpa [h1, h2] using k⟩
  · exact ⟨_, _, _, _, false, rfl, .ty _, ht, hk, _, rfl, k⟩
theorem ok_wrong_rowX (T : Txt K mg a) : FnR P w K mg base CX0 2 a.wrong_row (spWrongX K) := by
  have G_is_row : FnR P w K mg base CX0 1 a.is_row (spIsRowX K) := ok_is_rowX T
  refine T.d_wrong_row.ok sc_wrong_row (fun _ _ _ _ _ _ us hl => match us, hl with | [_, _], _ => rfl) (fun vs H Q E h => by obtain ⟨l, xs, rfl, _⟩ := h; rfl) (fun cdv A outer s H vs Q E hr h => ?_)
  obtain ⟨l, xs, rfl, hl, hn, hx, k⟩ := h
  refine ⟨_, (pss_cons (ps_for PassesOwn.never rfl (pi_enumT (by rfl) T.n_enumerate (pa_cons (pv 0) pa_nil)) (pg_tup rfl (pgs_cons (pg_name (i := 2) sc_wrong_row.nd rfl (Or.inl rfl)) (pgs_cons (pg_name (i := 3) sc_wrong_row.nd rfl (Or.inl rfl)) pgs_nil)))
          (pss_one (ps_if (PW.pt (pw_or (pt_not (pt_val (pe_callR G_is_row (hr.mono (by decide)) T.m_is_row T.k_is_row pass0 (pa_cons (pv 3) (pa_cons (pv 1) pa_nil))))) (pw_or1 (pt_cmpR op_ne (pe_callB call_len_str (by rfl) T.n_len (by decide +kernel) (pa_cons (pv 3) pa_nil)) (pe_callB call_len_str (by rfl) T.n_len (by decide +kernel) (pa_cons (pe_ix ix_seq (pv 0) pe_int (fun _ _ => rfl)) pa_nil)) (nomark _)))))
              (pss_one (ps_ret (pv 2)))
              pss_nil)))
      (pss_one (ps_ret pe_non))), ?_⟩
  simp only [tSeq, tIfS, tTest, tB, tAnd, tOr, tNot, tAndV, tOrV, tNotV, tIf, tOp, tUn, tChain, rEq, rNe, rI0, rI, rU, tCallR, tCons, tNil, tC, tVar, tRet, tRetN, tTup_k, tLst_k, tCB, tNext, tAsg, gName, gTup, gCons, gNil, tDrop, tPar, tFld, ClX.tCVal, tPropR, rBin, rBinT, rNeOwn, rSetL_k, gSub, tMakeK_k, tMethR, rInO, tDNewK_k, tYes, wipe, tMakeR_k, tSMeth, tSMethK, rMulS, decide_true, tNever, sFld, rIsiT, and_false, rListOf, rTupOf, rLenSeq, rIxL, rIxT, rIxS, rCat_k, rRep_k, rSlL_k, rSlS, rNewStrs_k, rAppend_k, tBM, tBM0, tM0, tM1, tSl, tNoPart, tPart, tLc_k, tFor_k, iList, iTup, iEnumT, iRng1, iRng2, iRng2L, iStr, L2.start, List.map, List.length_cons, List.length_nil, List.cons_append, List.nil_append, List.getElem?_cons_succ, List.getElem?_cons_zero, Option.some.injEq, V.int.injEq, V.bl.injEq, V.str.injEq, V.ref.injEq, exists_eq_left', exists_eq_left, and_assoc, exists_and_left, exists_eq, exists_eq', true_and, and_true, List.set_cons_zero, List.set_cons_succ, List.set, decide_eq_true_eq, Bool.not_eq_true', if_true, if_false, rIx, cx_K, nox_K, List.replicate_succ, List.replicate_zero, Nat.reduceSub, Bool.true_eq_false, Bool.false_eq_true, Nat.reduceAdd, List.cons.injEq, reduceCtorEq, false_and, false_or, or_false, tAug, rSetO, rJoin, rInDT, rRepT1]
  have h0 : ∃ (x2 x3 : Option V), Same H H ∧ (∀ j u, j < 0 → xs[j]? = some u → okV (xs.headD .non) u = true) ∧ ([some (V.ref l), some (.int 200), none, none] : List (Option V)) = [some (.ref l), some (.int 200), x2, x3] := ⟨_, _, Same.refl H, fun j u h => absurd h (Nat.not_lt_zero _), rfl⟩
  have fin : ∀ H', Same H H' → (∀ j u, j < xs.length → xs[j]? = some u → okV (xs.headD .non) u = true) → Q .non H' := fun H' s1 ok => by
    have z := k H' s1
    have e : wrongV xs = none := by
      cases xs with
      | nil => rfl
      | cons v0 r =>
        refine find_no fun j u hu => ?_
        have := ok j u (List.getElem?_eq_some_iff.mp hu).1 hu
        show (!okV v0 u) = false
        rw [show okV v0 u = true from this]
        rfl
    rw [e] at z
    exact z
  rcases hl with hl | hl
  · refine ⟨_, .inl ⟨SqL.of hl, kFor.it walk_enum (fun i σ H' => ∃ (x2 x3 : Option V), Same H H' ∧ (∀ j u, j < i → xs[j]? = some u → okV (xs.headD .non) u = true) ∧ σ = [some (.ref l), some (.int 200), x2, x3]) h0 (fun _ _ H' _ q => by obtain ⟨_, _, s1, _⟩ := q; exact s1.seq (SqL.of hl)) (fun i x σ H1 H2 hi hP hY => ?_) fun σ H' q => by obtain ⟨_, _, s1, ok, _⟩ := q; exact fin _ s1 ok⟩⟩
    obtain ⟨at_, rw_, s1, ok, rfl⟩ := hP
    obtain ⟨t1, y1, y2, rfl, ht1, rfl, e1, e2⟩ := hY
    cases e1
    have e2 : xs[i]? = some y2 := e2
    have f1 := fresh_upd (o := .tup [.int (i : Nat), y2]) ht1
    have s2 := s1.trans f1.same
    have hit := (hx y2 (List.mem_of_getElem? e2)).same s2
    obtain ⟨v0, r0, exs⟩ : ∃ v0 r0, xs = v0 :: r0 := by
      cases xs with
      | nil => simp at e2
      | cons a b => exact ⟨_, _, rfl⟩
    have wr : okV v0 y2 = false → wrongV xs = some i := fun h => by
      subst exs
      exact find_at (v0 :: r0) i y2 (fun j u hj hu => by
        show (!okV v0 u) = false
        rw [show okV v0 u = true from ok j u hj hu]
        rfl) e2 (by show (!okV v0 y2) = true; rw [h]; rfl)
    have back : ∀ H', Same H H' → okV v0 y2 = false → Q (.int (i : Nat)) H' := fun H' s h => by
      have z := k H' s
      rw [wr h] at z
      exact z
    refine ⟨t1, _, rfl, .inl (.inl f1.at_), rfl, ?_⟩
    simp only [tSeq, tIfS, tTest, tB, tAnd, tOr, tNot, tAndV, tOrV, tNotV, tIf, tOp, tUn, tChain, rEq, rNe, rI0, rI, rU, tCallR, tCons, tNil, tC, tVar, tRet, tRetN, tTup_k, tLst_k, tCB, tNext, tAsg, gName, gTup, gCons, gNil, tDrop, tPar, tFld, ClX.tCVal, tPropR, rBin, rBinT, rNeOwn, rSetL_k, gSub, tMakeK_k, tMethR, rInO, tDNewK_k, tYes, wipe, tMakeR_k, tSMeth, tSMethK, rMulS, decide_true, tNever, sFld, rIsiT, and_false, rListOf, rTupOf, rLenSeq, rIxL, rIxT, rIxS, rCat_k, rRep_k, rSlL_k, rSlS, rNewStrs_k, rAppend_k, tBM, tBM0, tM0, tM1, tSl, tNoPart, tPart, tLc_k, tFor_k, iList, iTup, iEnumT, iRng1, iRng2, iRng2L, iStr, L2.start, List.map, List.length_cons, List.length_nil, List.cons_append, List.nil_append, List.getElem?_cons_succ, List.getElem?_cons_zero, Option.some.injEq, V.int.injEq, V.bl.injEq, V.str.injEq, V.ref.injEq, exists_eq_left', exists_eq_left, and_assoc, exists_and_left, exists_eq, exists_eq', true_and, and_true, List.set_cons_zero, List.set_cons_succ, List.set, decide_eq_true_eq, Bool.not_eq_true', if_true, if_false, rIx, cx_K, nox_K, List.replicate_succ, List.replicate_zero, Nat.reduceSub, Bool.true_eq_false, Bool.false_eq_true, Nat.reduceAdd, List.cons.injEq, reduceCtorEq, false_and, false_or, or_false, tAug, rSetO, rJoin, rInDT, rRepT1]
    rcases hit with ⟨s, rfl, hs⟩ | hn'
    · refine ⟨_, rfl, .inl ⟨s, rfl, hs, _, rfl, ?_⟩⟩
      cases hg : goodS s with
      | false =>
        rw [if_pos rfl]
        exact back _ s2 (by cases v0 <;> simp [okV, hg])
      | true =>
        rw [if_neg (by decide)]
        obtain ⟨s0, rfl, hs0⟩ : ∃ s0, v0 = .str s0 ∧ s0.length ≤ 1000 := by
          have it0 := hx v0 (by rw [exs]; exact List.mem_cons_self)
          by_cases hi0 : i = 0
          · subst hi0
            rw [exs] at e2
            cases e2
            exact ⟨s, rfl, hs⟩
          · have := ok 0 v0 (by omega) (by rw [exs]; rfl)
            rw [exs] at this
            rcases it0 with ⟨s0, rfl, h⟩ | h
            · exact ⟨s0, rfl, h⟩
            · cases v0 <;> simp [okV] at this
              rename_i z
              exact h.ne.elim
        have a0 : atI xs 0 = some (.str s0) := by rw [exs]; exact atI_nat (j := 0) rfl
        refine ⟨s, rfl, Nat.le_trans hs (by decide), ?_⟩
        first
          | refine .inl ⟨_, Same.seq s2 (SqL.of hl), _, a0, s0, rfl, Nat.le_trans hs0 (by decide), rfl, ?_⟩
          | refine .inr (.inl ⟨_, Same.tup s2 (.inl (.inl hl)), _, a0, s0, rfl, Nat.le_trans hs0 (by decide), rfl, ?_⟩)
        by_cases e : s.length = s0.length
        · rw [if_neg (by simp [e])]
          refine ⟨s2, fun j u hj hu => ?_⟩
          by_cases hji : j = i
          · subst hji
            rw [e2] at hu
            cases hu
            rw [exs]
            show okV (.str s0) (.str s) = true
            simp [okV, hg, e]
          · exact ok j u (by omega) hu
        · rw [if_pos (decide_eq_false fun z => e (by omega))]
          exact back _ s2 (by simp [okV, hg, e])
    · refine ⟨_, rfl, .inr ⟨hn', _, rfl, ?_⟩⟩
      rw [if_pos rfl]
      exact back _ s2 hn'.ok
  · refine ⟨_, .inr ⟨.inl (.inl hl), kFor.it walk_enumT (fun i σ H' => ∃ (x2 x3 : Option V), Same H H' ∧ (∀ j u, j < i → xs[j]? = some u → okV (xs.headD .non) u = true) ∧ σ = [some (.ref l), some (.int 200), x2, x3]) h0 (fun _ _ H' _ q => by obtain ⟨_, _, s1, _⟩ := q; exact Same.tup s1 (.inl (.inl hl))) (fun i x σ H1 H2 hi hP hY => ?_) fun σ H' q => by obtain ⟨_, _, s1, ok, _⟩ := q; exact fin _ s1 ok⟩⟩
    obtain ⟨at_, rw_, s1, ok, rfl⟩ := hP
    obtain ⟨t1, y1, y2, rfl, ht1, rfl, e1, e2⟩ := hY
    cases e1
    have e2 : xs[i]? = some y2 := e2
    have f1 := fresh_upd (o := .tup [.int (i : Nat), y2]) ht1
    have s2 := s1.trans f1.same
    have hit := (hx y2 (List.mem_of_getElem? e2)).same s2
    obtain ⟨v0, r0, exs⟩ : ∃ v0 r0, xs = v0 :: r0 := by
      cases xs with
      | nil => simp at e2
      | cons a b => exact ⟨_, _, rfl⟩
    have wr : okV v0 y2 = false → wrongV xs = some i := fun h => by
      subst exs
      exact find_at (v0 :: r0) i y2 (fun j u hj hu => by
        show (!okV v0 u) = false
        rw [show okV v0 u = true from ok j u hj hu]
        rfl) e2 (by show (!okV v0 y2) = true; rw [h]; rfl)
    have back : ∀ H', Same H H' → okV v0 y2 = false → Q (.int (i : Nat)) H' := fun H' s h => by
      have z := k H' s
      rw [wr h] at z
      exact z
    refine ⟨t1, _, rfl, .inl (.inl f1.at_), rfl, ?_⟩
    simp only [tSeq, tIfS, tTest, tB, tAnd, tOr, tNot, tAndV, tOrV, tNotV, tIf, tOp, tUn, tChain, rEq, rNe, rI0, rI, rU, tCallR, tCons, tNil, tC, tVar, tRet, tRetN, tTup_k, tLst_k, tCB, tNext, tAsg, gName, gTup, gCons, gNil, tDrop, tPar, tFld, ClX.tCVal, tPropR, rBin, rBinT, rNeOwn, rSetL_k, gSub, tMakeK_k, tMethR, rInO, tDNewK_k, tYes, wipe, tMakeR_k, tSMeth, tSMethK, rMulS, decide_true, tNever, sFld, rIsiT, and_false, rListOf, rTupOf, rLenSeq, rIxL, rIxT, rIxS, rCat_k, rRep_k, rSlL_k, rSlS, rNewStrs_k, rAppend_k, tBM, tBM0, tM0, tM1, tSl, tNoPart, tPart, tLc_k, tFor_k, iList, iTup, iEnumT, iRng1, iRng2, iRng2L, iStr, L2.start, List.map, List.length_cons, List.length_nil, List.cons_append, List.nil_append, List.getElem?_cons_succ, List.getElem?_cons_zero, Option.some.injEq, V.int.injEq, V.bl.injEq, V.str.injEq, V.ref.injEq, exists_eq_left', exists_eq_left, and_assoc, exists_and_left, exists_eq, exists_eq', true_and, and_true, List.set_cons_zero, List.set_cons_succ, List.set, decide_eq_true_eq, Bool.not_eq_true', if_true, if_false, rIx, cx_K, nox_K, List.replicate_succ, List.replicate_zero, Nat.reduceSub, Bool.true_eq_false, Bool.false_eq_true, Nat.reduceAdd, List.cons.injEq, reduceCtorEq, false_and, false_or, or_false, tAug, rSetO, rJoin, rInDT, rRepT1]
    rcases hit with ⟨s, rfl, hs⟩ | hn'
    · refine ⟨_, rfl, .inl ⟨s, rfl, hs, _, rfl, ?_⟩⟩
      cases hg : goodS s with
      | false =>
        rw [if_pos rfl]
        exact back _ s2 (by cases v0 <;> simp [okV, hg])
      | true =>
        rw [if_neg (by decide)]
        obtain ⟨s0, rfl, hs0⟩ : ∃ s0, v0 = .str s0 ∧ s0.length ≤ 1000 := by
          have it0 := hx v0 (by rw [exs]; exact List.mem_cons_self)
          by_cases hi0 : i = 0
          · subst hi0
            rw [exs] at e2
            cases e2
            exact ⟨s, rfl, hs⟩
          · have := ok 0 v0 (by omega) (by rw [exs]; rfl)
            rw [exs] at this
            rcases it0 with ⟨s0, rfl, h⟩ | h
            · exact ⟨s0, rfl, h⟩
            · cases v0 <;> simp [okV] at this
              rename_i z
              exact h.ne.elim
        have a0 : atI xs 0 = some (.str s0) := by rw [exs]; exact atI_nat (j := 0) rfl
        refine ⟨s, rfl, Nat.le_trans hs (by decide), ?_⟩
        first
          | refine .inl ⟨_, Same.seq s2 (SqL.of hl), _, a0, s0, rfl, Nat.le_trans hs0 (by decide), rfl, ?_⟩
          | refine .inr (.inl ⟨_, Same.tup s2 (.inl (.inl hl)), _, a0, s0, rfl, Nat.le_trans hs0 (by decide), rfl, ?_⟩)
        by_cases e : s.length = s0.length
        · rw [if_neg (by simp [e])]
          refine ⟨s2, fun j u hj hu => ?_⟩
          by_cases hji : j = i
          · subst hji
            rw [e2] at hu
            cases hu
            rw [exs]
            show okV (.str s0) (.str s) = true
            simp [okV, hg, e]
          · exact ok j u (by omega) hu
        · rw [if_pos (decide_eq_false fun z => e (by omega))]
          exact back _ s2 (by simp [okV, hg, e])
    · refine ⟨_, rfl, .inr ⟨hn', _, rfl, ?_⟩⟩
      rw [if_pos rfl]
      exact back _ s2 hn'.ok
end
end Pf
end
section
namespace Pf
open PySem PySem.Spec PyProof.Rows L2 Ow StX
open SX (S)
/-! ### pictures refused -/
/-- rows that are handed over -/
def Rows? (H : Hp) (l : Addr) (xs : List V) : Prop := H l = some (.lst xs) ∨ H l = some (.tup xs)
theorem Rows?.same {H H' : Hp} {l : Addr} {xs : List V} (h : Rows? H l xs) (s : Same H H') : Rows? H' l xs := h.imp (s _ _) (s _ _)
/-- no list, no tuple -/
def NoSeq (K : PySem.W.Frag) (H : Hp) (v : V) : Prop := ∃ T : String, TyX K H v (.type T) ∧ PySem.W.kitAny K (.type T) [.type "list", .type "tuple"] = some false
theorem NoSeq.same {K : PySem.W.Frag} {H H' : Hp} {v : V} (h : NoSeq K H v) (s : Same H H') : NoSeq K H' v := h.imp fun _ q => ⟨TyX.same q.1 s, q.2⟩
/-- what becomes of rows of any kind -/
def spPicInitX (K : PySem.W.Frag) (C B : Addr) : Sp := fun vs H Q E => ∃ (p dx : Addr) (v : V), vs = [.ref p, v] ∧ H p = some (.ins C dx []) ∧
  ((NoSeq K H v ∧ OutS B "row" H E .non) ∨ ∃ (l : Addr) (xs : List V), v = .ref l ∧ Rows? H l xs ∧ xs.length ≤ 1000 ∧ (∀ x ∈ xs, ItemK K H x) ∧
    ((¬ (1 ≤ xs.length ∧ xs.length ≤ 200) ∧ OutS B "row" H E .non) ∨ (1 ≤ xs.length ∧ xs.length ≤ 200 ∧ ((∃ k : Nat, wrongV xs = some k ∧ OutS B "row" H E (.int (k : Nat))) ∨
      (wrongV xs = none ∧ ∀ (t : Addr) (H1 : Hp), Same H H1 → H1 t = some (.tup xs) → Q .non (upd H1 p (.ins C dx [("_rows", .ref t)])))))))
section
variable {P : Program} {w : World} {K : PySem.W.Frag} {mg : Str → Option Value} {base : Heap} {a : Adr}
set_option maxHeartbeats 4000000
theorem ok_badpicture (T : Txt K mg a) : ∃ fd, FnOk P w K mg base CX0 1 a.BadPicture_init fd ["self", "row"] (spErr1 a.BadPicture "row") ∧ Binds K fd ["self", "row"] [] := by
  refine T.d_BadPicture_init.okB sc_BadPicture_init (fun _ _ _ _ _ _ us hl => match us, hl with | [_, _], _ => rfl) (fun vs H Q E h => by obtain ⟨b, v, rfl, _⟩ := h; rfl) (fun cdv A outer s H vs Q E hr h => ?_)
  obtain ⟨b, v, rfl, hb, k⟩ := h
  exact ⟨_, (pss_one (ps_ost (pv 0) (pv 1))), _, rfl, _, rfl, b, _, rfl, T.e_BadPicture.ox, T.a_BadPicture_row, .inl ⟨hb, k⟩⟩
theorem ok_baddeed (T : Txt K mg a) : ∃ fd, FnOk P w K mg base CX0 1 a.BadDeed_init fd ["self", "part"] (spErr1 a.BadDeed "part") ∧ Binds K fd ["self", "part"] [] := by
  refine T.d_BadDeed_init.okB sc_BadDeed_init (fun _ _ _ _ _ _ us hl => match us, hl with | [_, _], _ => rfl) (fun vs H Q E h => by obtain ⟨b, v, rfl, _⟩ := h; rfl) (fun cdv A outer s H vs Q E hr h => ?_)
  obtain ⟨b, v, rfl, hb, k⟩ := h
  exact ⟨_, (pss_one (ps_ost (pv 0) (pv 1))), _, rfl, _, rfl, b, _, rfl, T.e_BadDeed.ox, T.a_BadDeed_part, .inl ⟨hb, k⟩⟩
theorem ok_pic_initX (T : Txt K mg a) : FnR P w K mg base (CX P w) 3 a.Picture_init (spPicInitX K a.Picture a.BadPicture) := by
  have G_wrong_row : FnR P w K mg base CX0 2 a.wrong_row (spWrongX K) := ok_wrong_rowX T
  obtain ⟨_, O_BadPicture, B_BadPicture⟩ := ok_badpicture (P := P) (w := w) (base := base) T
  obtain ⟨uM, cvM⟩ := T.cv_MOST
  refine T.d_Picture_init.okX sc_Picture_init (fun _ _ _ _ _ _ us hl => match us, hl with | [_, _], _ => rfl) (fun vs H Q E h => by obtain ⟨p, dx, v, rfl, _⟩ := h; rfl) (fun cdv A outer s H vs Q E hr h => ?_)
  obtain ⟨p, dx, v, rfl, hp, h⟩ := h
  refine ⟨_, (pss_cons (ps_if (PW.pt (pw_or (pt_not (pt_val (pe_callB call_isiT (by rfl) T.n_isinstance (by decide +kernel) (pa_cons (pv 1) (pa_cons (pe_tup (pa_cons (pe_bltn (v := .ty "list") (by rfl) T.n_list (by decide +kernel) rfl) (pa_cons (pe_bltn (v := .ty "tuple") (by rfl) T.n_tuple (by decide +kernel) rfl) pa_nil))) pa_nil))))) (pw_or1 (pt_not (pt_chain op_le op_le pe_int (pe_callB call_len_seq (by rfl) T.n_len (by decide +kernel) (pa_cons (pv 1) pa_nil)) (ClX.pe_cval (pe_glob (v := .ref a.Picture) rfl T.m_Picture rfl)))))))
          (pss_one (ps_raise rfl (takes_of rfl rfl rfl rfl) (pmk_oex T.e_BadPicture.ox T.e_BadPicture.iC T.e_BadPicture.tI O_BadPicture (hr.mono (by decide)) B_BadPicture .nil pass0 rfl T.m_BadPicture (pa_cons pe_non pa_nil))))
          pss_nil)
      (pss_cons (ps_set (i := 2) sc_Picture_init.nd rfl (Or.inl rfl) (pe_callR G_wrong_row (hr.mono (by decide)) T.m_wrong_row T.k_wrong_row pass0 (pa_cons (pv 1) (pa_cons (ClX.pe_cval (pe_glob (v := .ref a.Picture) rfl T.m_Picture rfl)) pa_nil))))
      (pss_cons (ps_if (pt_cmpR op_notN (pv 2) pe_non (nomark _))
          (pss_one (ps_raise rfl (takes_of rfl rfl rfl rfl) (pmk_oex T.e_BadPicture.ox T.e_BadPicture.iC T.e_BadPicture.tI O_BadPicture (hr.mono (by decide)) B_BadPicture .nil pass0 rfl T.m_BadPicture (pa_cons (pv 2) pa_nil))))
          pss_nil)
      (pss_one (ps_fld (pv 0) (pe_callTy call_tupleK (by rfl) T.n_tuple (by decide +kernel) (pa_cons (pv 1) pa_nil)) rfl))))), ?_⟩
  simp only [tSeq, tIfS, tTest, tB, tAnd, tOr, tNot, tAndV, tOrV, tNotV, tIf, tOp, tUn, tChain, rEq, rNe, rI0, rI, rU, tCallR, tCons, tNil, tC, tVar, tRet, tRetN, tTup_k, tLst_k, tCB, tNext, tAsg, gName, gTup, gCons, gNil, tDrop, tPar, tFld, ClX.tCVal, tPropR, rBin, rBinT, rNeOwn, rSetL_k, gSub, tMakeK_k, tMethR, rInO, tDNewK_k, tYes, wipe, tMakeR_k, tSMeth, tSMethK, rMulS, decide_true, tNever, sFld, rIsiT, and_false, rListOf, rTupOf, rLenSeq, rIxL, rIxT, rIxS, rCat_k, rRep_k, rSlL_k, rSlS, rNewStrs_k, rAppend_k, tBM, tBM0, tM0, tM1, tSl, tNoPart, tPart, tLc_k, tFor_k, iList, iTup, iEnumT, iRng1, iRng2, iRng2L, iStr, L2.start, List.map, List.length_cons, List.length_nil, List.cons_append, List.nil_append, List.getElem?_cons_succ, List.getElem?_cons_zero, Option.some.injEq, V.int.injEq, V.bl.injEq, V.str.injEq, V.ref.injEq, exists_eq_left', exists_eq_left, and_assoc, exists_and_left, exists_eq, exists_eq', true_and, and_true, List.set_cons_zero, List.set_cons_succ, List.set, decide_eq_true_eq, Bool.not_eq_true', if_true, if_false, rIx, cx_K, nox_K, List.replicate_succ, List.replicate_zero, Nat.reduceSub, Bool.true_eq_false, Bool.false_eq_true, Nat.reduceAdd, List.cons.injEq, reduceCtorEq, false_and, false_or, or_false, tAug, rSetO, rJoin, rInDT, rRepT1]
  refine kNew.mk (by show 2 ≤ sizeLine; decide) fun tp H1 f1 => ?_
  rcases h with ⟨⟨t, ht, hk⟩, k⟩ | ⟨l, xs, rfl, hl, hn, hx, h⟩
  · simp only [tSeq, tIfS, tTest, tB, tAnd, tOr, tNot, tAndV, tOrV, tNotV, tIf, tOp, tUn, tChain, rEq, rNe, rI0, rI, rU, tCallR, tCons, tNil, tC, tVar, tRet, tRetN, tTup_k, tLst_k, tCB, tNext, tAsg, gName, gTup, gCons, gNil, tDrop, tPar, tFld, ClX.tCVal, tPropR, rBin, rBinT, rNeOwn, rSetL_k, gSub, tMakeK_k, tMethR, rInO, tDNewK_k, tYes, wipe, tMakeR_k, tSMeth, tSMethK, rMulS, decide_true, tNever, sFld, rIsiT, and_false, rListOf, rTupOf, rLenSeq, rIxL, rIxT, rIxS, rCat_k, rRep_k, rSlL_k, rSlS, rNewStrs_k, rAppend_k, tBM, tBM0, tM0, tM1, tSl, tNoPart, tPart, tLc_k, tFor_k, iList, iTup, iEnumT, iRng1, iRng2, iRng2L, iStr, L2.start, List.map, List.length_cons, List.length_nil, List.cons_append, List.nil_append, List.getElem?_cons_succ, List.getElem?_cons_zero, Option.some.injEq, V.int.injEq, V.bl.injEq, V.str.injEq, V.ref.injEq, exists_eq_left', exists_eq_left, and_assoc, exists_and_left, exists_eq, exists_eq', true_and, and_true, List.set_cons_zero, List.set_cons_succ, List.set, decide_eq_true_eq, Bool.not_eq_true', if_true, if_false, rIx, cx_K, nox_K, List.replicate_succ, List.replicate_zero, Nat.reduceSub, Bool.true_eq_false, Bool.false_eq_true, Nat.reduceAdd, List.cons.injEq, reduceCtorEq, false_and, false_or, or_false, tAug, rSetO, rJoin, rInDT, rRepT1]
    refine ⟨_, f1.at_, _, _, .cons (.ty _) (.cons (.ty _) .nil), TyX.same ht f1.same, false, hk, ?_⟩
    rw [if_pos rfl]
    exact err1_made (k H1 f1.same)
  · have hl1 := hl.same f1.same
    obtain ⟨tt, hty, hk⟩ : ∃ tt, TyX K H1 (.ref l) tt ∧ PySem.W.kitAny K tt [.type "list", .type "tuple"] = some true := by
      rcases hl1 with h | h
      · exact ⟨_, .base (.lst h), kitAny_cons kit_self (by intro z; cases z) (fun _ => rfl)⟩
      · exact ⟨_, .base (.tup h), kitAny_cons (b := false) (kit_ty (by decide +kernel)) (fun _ => kitAny_cons kit_self (by intro z; cases z) (fun _ => rfl)) (by intro z; cases z)⟩
    simp only [tSeq, tIfS, tTest, tB, tAnd, tOr, tNot, tAndV, tOrV, tNotV, tIf, tOp, tUn, tChain, rEq, rNe, rI0, rI, rU, tCallR, tCons, tNil, tC, tVar, tRet, tRetN, tTup_k, tLst_k, tCB, tNext, tAsg, gName, gTup, gCons, gNil, tDrop, tPar, tFld, ClX.tCVal, tPropR, rBin, rBinT, rNeOwn, rSetL_k, gSub, tMakeK_k, tMethR, rInO, tDNewK_k, tYes, wipe, tMakeR_k, tSMeth, tSMethK, rMulS, decide_true, tNever, sFld, rIsiT, and_false, rListOf, rTupOf, rLenSeq, rIxL, rIxT, rIxS, rCat_k, rRep_k, rSlL_k, rSlS, rNewStrs_k, rAppend_k, tBM, tBM0, tM0, tM1, tSl, tNoPart, tPart, tLc_k, tFor_k, iList, iTup, iEnumT, iRng1, iRng2, iRng2L, iStr, L2.start, List.map, List.length_cons, List.length_nil, List.cons_append, List.nil_append, List.getElem?_cons_succ, List.getElem?_cons_zero, Option.some.injEq, V.int.injEq, V.bl.injEq, V.str.injEq, V.ref.injEq, exists_eq_left', exists_eq_left, and_assoc, exists_and_left, exists_eq, exists_eq', true_and, and_true, List.set_cons_zero, List.set_cons_succ, List.set, decide_eq_true_eq, Bool.not_eq_true', if_true, if_false, rIx, cx_K, nox_K, List.replicate_succ, List.replicate_zero, Nat.reduceSub, Bool.true_eq_false, Bool.false_eq_true, Nat.reduceAdd, List.cons.injEq, reduceCtorEq, false_and, false_or, or_false, tAug, rSetO, rJoin, rInDT, rRepT1]
    refine ⟨_, f1.at_, _, _, .cons (.ty _) (.cons (.ty _) .nil), hty, true, hk, ?_⟩
    rw [if_neg (by decide)]
    have hs1 : SqL K H1 l xs ∨ SqT K H1 l xs := hl1.imp SqL.of fun h => .inl (.inl h)
    refine ⟨_, hs1, ?_⟩
    have hp1 := f1.same _ _ hp
    rcases h with ⟨hnl, k⟩ | ⟨l0, l1, h⟩
    · by_cases h1 : (1 : Int) ≤ xs.length
      · rw [if_pos h1]
        refine ⟨_, T.cr_Picture, _, _, cvM, _, rfl, ?_⟩
        rw [if_pos (decide_eq_false fun z => hnl ⟨by omega, by omega⟩)]
        exact err1_made (k H1 f1.same)
      · rw [if_neg h1]
        exact err1_made (k H1 f1.same)
    · rw [if_pos (show (1 : Int) ≤ xs.length by omega)]
      refine ⟨_, T.cr_Picture, _, _, cvM, _, rfl, ?_⟩
      rw [if_neg (by simp; omega)]
      refine ⟨_, T.cr_Picture, _, _, cvM, l, xs, rfl, hl1, hn, fun x hx' => (hx x hx').same f1.same, fun H2 s2 => ?_⟩
      have s12 := f1.same.trans s2
      have hp2 := s2 _ _ hp1
      rcases h with ⟨kk, e, k⟩ | ⟨e, k⟩
      · rw [e]
        simp only
        rw [if_pos (decide_eq_false fun z => by cases z)]
        exact ⟨_, rfl, err1_made (k H2 s12)⟩
      · rw [e]
        simp only
        rw [if_neg (by simp)]
        rcases hl1.same s2 with h | h
        · exact ⟨_, .inl ⟨SqL.of h, kN.mk fun t H3 f3 => ⟨_, dx, [], f3.get hp2, T.c_Picture.cl, T.a_Picture__rows, by decide, k t H3 (s12.trans f3.same) f3.at_⟩⟩⟩
        · exact ⟨_, .inr ⟨.inl (.inl h), _, dx, [], hp2, T.c_Picture.cl, T.a_Picture__rows, by decide, k l H2 s12 h⟩⟩
/-- a picture out of rows of any kind -/
theorem newPicX {C B l : Addr} {xs : List V} {H : Hp} {Q : VK} {E : XK} (hl : Rows? H l xs) (l0 : 1 ≤ xs.length) (l1 : xs.length ≤ 200) (hx : ∀ x ∈ xs, ItemK K H x) (hw : wrongV xs = none) (k : ∀ x dx t H', Same H H' → H' x = some (.ins C dx [("_rows", .ref t)]) → H' t = some (.tup xs) → Q (.ref x) H') : kMake C (spPicInitX K C B) E Q [.ref l] H :=
  kMake.mk fun x dx H1 s1 nx hx1 so => ⟨x, dx, .ref l, rfl, hx1, .inr ⟨l, xs, rfl, hl.same s1, by omega, fun y hy => (hx y hy).same s1, .inr ⟨l0, l1, .inr ⟨hw, fun t H2 s2 ht => by
    refine ⟨rfl, k x dx t _ ?_ upd_same ?_⟩
    · intro b u e
      rw [upd_ne (ne_of_none e nx)]
      exact s2 _ _ (s1 _ _ e)
    · rw [upd_ne (ne_of ht (s2 _ _ hx1) (fun z => by cases z))]
      exact ht⟩⟩⟩⟩
theorem ok_height (T : Txt K mg a) : FnR P w K mg base CX0 1 a.Picture_height (fun vs H Q _ => ∃ (x dx t : Addr) (xs : List V), vs = [.ref x] ∧ H x = some (.ins a.Picture dx [("_rows", .ref t)]) ∧ H t = some (.tup xs) ∧ Q (.int xs.length) H) := by
  refine T.d_Picture_height.ok sc_Picture_height (fun _ _ _ _ _ _ us hl => match us, hl with | [_], _ => rfl) (fun vs H Q E h => by obtain ⟨x, dx, t, xs, rfl, _⟩ := h; rfl) (fun cdv A outer s H vs Q E hr h => ?_)
  obtain ⟨x, dx, t, xs, rfl, hx, ht, k⟩ := h
  refine ⟨_, (pss_one (ps_ret (pe_callB call_len_seq (by rfl) T.n_len (by decide +kernel) (pa_cons (pe_fld (pv 0) rfl) pa_nil)))), ?_⟩
  simp only [tSeq, tIfS, tTest, tB, tAnd, tOr, tNot, tAndV, tOrV, tNotV, tIf, tOp, tUn, tChain, rEq, rNe, rI0, rI, rU, tCallR, tCons, tNil, tC, tVar, tRet, tRetN, tTup_k, tLst_k, tCB, tNext, tAsg, gName, gTup, gCons, gNil, tDrop, tPar, tFld, ClX.tCVal, tPropR, rBin, rBinT, rNeOwn, rSetL_k, gSub, tMakeK_k, tMethR, rInO, tDNewK_k, tYes, wipe, tMakeR_k, tSMeth, tSMethK, rMulS, decide_true, tNever, sFld, rIsiT, and_false, rListOf, rTupOf, rLenSeq, rIxL, rIxT, rIxS, rCat_k, rRep_k, rSlL_k, rSlS, rNewStrs_k, rAppend_k, tBM, tBM0, tM0, tM1, tSl, tNoPart, tPart, tLc_k, tFor_k, iList, iTup, iEnumT, iRng1, iRng2, iRng2L, iStr, L2.start, List.map, List.length_cons, List.length_nil, List.cons_append, List.nil_append, List.getElem?_cons_succ, List.getElem?_cons_zero, Option.some.injEq, V.int.injEq, V.bl.injEq, V.str.injEq, V.ref.injEq, exists_eq_left', exists_eq_left, and_assoc, exists_and_left, exists_eq, exists_eq', true_and, and_true, List.set_cons_zero, List.set_cons_succ, List.set, decide_eq_true_eq, Bool.not_eq_true', if_true, if_false, rIx, cx_K, nox_K, List.replicate_succ, List.replicate_zero, Nat.reduceSub, Bool.true_eq_false, Bool.false_eq_true, Nat.reduceAdd, List.cons.injEq, reduceCtorEq, false_and, false_or, or_false, tAug, rSetO, rJoin, rInDT, rRepT1]
  exact ⟨_, dx, _, hx, T.c_Picture.cl, T.a_Picture__rows, _, rfl, _, rfl, _, .inr (.inl (.inl ht)), k⟩
end

end Pf
end
section
namespace Pf
open PySem PySem.Spec PyProof.Rows L2 Ow StX
open SX (S)
theorem dig_S {c : Int} (h0 : 0 ≤ c) (h1 : c < 10) : Str.ofString (toString c) = S [48 + c.toNat] ∧ c.natAbs.log2 < 1920 := by
  rcases (by omega : c = 0 ∨ c = 1 ∨ c = 2 ∨ c = 3 ∨ c = 4 ∨ c = 5 ∨ c = 6 ∨ c = 7 ∨ c = 8 ∨ c = 9) with rfl | rfl | rfl | rfl | rfl | rfl | rfl | rfl | rfl | rfl <;> exact ⟨by decide +kernel, by decide +kernel⟩
abbrev plainRs (w h c : Int) : List (List Nat) := List.replicate h.toNat (List.replicate w.toNat (48 + c.toNat))
theorem good_plain {w h c : Int} (w0 : 1 ≤ w) (w1 : w ≤ 200) (h0 : 1 ≤ h) (h1 : h ≤ 200) (c0 : 0 ≤ c) (c1 : c < 10) : Good w.toNat (plainRs w h c) := by
  refine ⟨by rw [List.length_replicate]; omega, by rw [List.length_replicate]; omega, by omega, by omega, fun r hr => ?_⟩
  obtain ⟨_, rfl⟩ := List.mem_replicate.mp hr
  refine ⟨List.length_replicate, fun d hd => ?_⟩
  obtain ⟨_, rfl⟩ := List.mem_replicate.mp hd
  omega
theorem plain_rows (w h c : Int) : rowsV (plainRs w h c) = List.replicate h.toNat (.str (S (List.replicate w.toNat (48 + c.toNat)))) := by
  show List.map _ (List.replicate _ _) = _
  rw [List.map_replicate]
theorem flat_one {α : Type} (x : α) : ∀ n : Nat, (List.replicate n [x]).flatten = List.replicate n x
  | 0 => rfl
  | n + 1 => by rw [List.replicate_succ, List.flatten_cons, flat_one x n, List.replicate_succ]; rfl
theorem goodS_S {r : List Nat} (h : DigL r) (h0 : 1 ≤ r.length) (h1 : r.length ≤ 200) : goodS (S r) = true := by
  unfold goodS
  rw [digL_ascii h, digL_digit h h0, SX.S_len, decide_eq_true (by omega)]
  rfl
theorem wrong_rep {s : Str} (h : goodS s = true) (n : Nat) : wrongV (List.replicate n (.str s)) = none := by
  cases n with
  | zero => rfl
  | succ n =>
    rw [List.replicate_succ]
    refine find_no fun j u hu => ?_
    have hm := List.mem_of_getElem? hu
    rw [← List.replicate_succ] at hm
    obtain ⟨_, rfl⟩ := List.mem_replicate.mp hm
    simp [okV, h]
def spPlainE (K : PySem.W.Frag) (C BS BC : Addr) : Sp := fun vs H Q E => ∃ v u k : V, vs = [v, u, k] ∧
  ((∃ w h c : Int, v = .int w ∧ u = .int h ∧ k = .int c ∧ 1 ≤ w ∧ w ≤ 200 ∧ 1 ≤ h ∧ h ≤ 200 ∧ 0 ≤ c ∧ c < 10 ∧ ∀ x H', Same H H' → Pic H' C x (plainRs w h c) → Q (.ref x) H') ∨
   (BadI K 1 201 H v ∧ Out1 BS "part" H E (.str "width")) ∨ (∃ w : Int, v = .int w ∧ 1 ≤ w ∧ w ≤ 200 ∧ BadI K 1 201 H u ∧ Out1 BS "part" H E (.str "height")) ∨
   (∃ w h : Int, v = .int w ∧ u = .int h ∧ 1 ≤ w ∧ w ≤ 200 ∧ 1 ≤ h ∧ h ≤ 200 ∧ BadC K H k ∧ Out1 BC "value" H E k))
def spPGetE (K : PySem.W.Frag) (C B : Addr) : Sp := fun vs H Q E => ∃ (x at_ : Addr) (w : Nat) (rs : List (List Nat)) (v u : V), vs = [.ref x, .ref at_] ∧ Pic H C x rs ∧ Good w rs ∧ H at_ = some (.tup [v, u]) ∧ BadPx K w rs.length H v u ∧ Out2 B "x" "y" H E v u
def spRegE (K : PySem.W.Frag) (C B : Addr) : Sp := fun vs H Q E => ∃ (x : Addr) (w : Nat) (rs : List (List Nat)) (v u : V), vs = [.ref x, v, u] ∧ Pic H C x rs ∧ Good w rs ∧ BadPx K w rs.length H v u ∧ Out2 B "x" "y" H E v u
def spWayE (K : PySem.W.Frag) (C B : Addr) : Sp := fun vs H Q E => ∃ (x : Addr) (w : Nat) (rs : List (List Nat)) (v u v2 u2 : V), vs = [.ref x, v, u, v2, u2] ∧ Pic H C x rs ∧ Good w rs ∧
  ((BadPx K w rs.length H v u ∧ Out2 B "x" "y" H E v u) ∨ (∃ i j : Int, v = .int i ∧ u = .int j ∧ 0 ≤ i ∧ i < w ∧ 0 ≤ j ∧ j < rs.length ∧ BadPx K w rs.length H v2 u2 ∧ Out2 B "x" "y" H E v2 u2))
def spAreaE (K : PySem.W.Frag) (B : Addr) : Sp := fun vs H Q E => ∃ x v : V, vs = [x, v] ∧ BadC K H v ∧ Out1 B "value" H E v
/-- no axis -/
def BadAx (K : PySem.W.Frag) (H : Hp) (v : V) : Prop := ∃ d : PyData, Dp K H v d ∧ SeqAt.shaped d = true ∧ PyData.eqv (.str "across") d = false ∧ PyData.eqv (.str "down") d = false
def spAxE (K : PySem.W.Frag) (B : Addr) : Sp := fun vs H Q E => ∃ v : V, vs = [v] ∧ BadAx K H v ∧ Out1 B "part" H E (.str "axis")
def spFlipE (K : PySem.W.Frag) (B : Addr) : Sp := fun vs H Q E => ∃ x v : V, vs = [x, v] ∧ BadAx K H v ∧ Out1 B "part" H E (.str "axis")
section
variable {P : Program} {w : World} {K : PySem.W.Frag} {mg : Str → Option Value} {base : Heap} {a : Adr}
set_option maxHeartbeats 4000000
theorem ok_plainE (T : Txt K mg a) : FnR P w K mg base (CX P w) 5 a.Picture_plain (spPlainE K a.Picture a.BadSize a.BadColour) := by
  have G_check_side : FnR P w K mg base (CX P w) 3 a.check_side (spChSideE K a.BadSize) := ok_check_sideE T
  have G_check_colour : FnR P w K mg base (CX P w) 4 a.check_colour (spChColE K a.BadColour) := ok_check_colourE T
  have G_Picture_init : FnR P w K mg base (CX P w) 3 a.Picture_init (spPicInitX K a.Picture a.BadPicture) := ok_pic_initX T
  obtain ⟨uM, cvM⟩ := T.cv_MOST
  have F := T.d_Picture_plain.okDX (P := P) (w := w) (mg := mg) (base := base) (k := 4) (n := 3) (j := 1) (sp := spPlainE K a.Picture a.BadSize a.BadColour) sc_Picture_plain (by simp) rfl (fun T kV doc pm an cdv ct us its hu hi => match us, its, hu, hi with | [_, _, _], [_], _, _ => ⟨_, rfl, rfl⟩) (fun vs H Q E h => by obtain ⟨v, u, k, rfl, _⟩ := h; rfl) (fun cdv A outer s H vs Q E hr h => ?_)
  · exact F.imp fun vs H Q E h => by
      show spPlainE K a.Picture a.BadSize a.BadColour (vs ++ []) H Q E
      rw [List.append_nil]
      exact h
  · obtain ⟨v, u, kv, rfl, h⟩ := h
    refine ⟨_, (pss_cons (ps_expr (pe_callR G_check_side (hr.mono (by decide)) T.m_check_side T.k_check_side (passUp (takes_of rfl rfl rfl rfl)) (pa_cons (pv 0) (pa_cons pe_str (pa_cons (ClX.pe_cval (pe_glob (v := .ref a.Picture) rfl T.m_Picture rfl)) pa_nil)))))
      (pss_cons (ps_expr (pe_callR G_check_side (hr.mono (by decide)) T.m_check_side T.k_check_side (passUp (takes_of rfl rfl rfl rfl)) (pa_cons (pv 1) (pa_cons pe_str (pa_cons (ClX.pe_cval (pe_glob (v := .ref a.Picture) rfl T.m_Picture rfl)) pa_nil)))))
      (pss_cons (ps_expr (pe_callR G_check_colour (hr.mono (by decide)) T.m_check_colour T.k_check_colour (passUp (takes_of rfl rfl rfl rfl)) (pa_cons (pv 2) pa_nil)))
      (pss_one (ps_ret (pe_makeRR T.M_Picture G_Picture_init (hr.mono (by decide)) T.m_Picture (passUp (takes_of rfl rfl rfl rfl)) (pa_cons (pe_op op_rep (pe_lst (pa_cons (pe_op op_mulS (pe_callTy call_str_int (by rfl) T.n_str (by decide +kernel) (pa_cons (pv 2) pa_nil)) (pv 0)) pa_nil)) (pv 1)) pa_nil))))))), ?_⟩
    simp only [tSeq, tIfS, tTest, tB, tAnd, tOr, tNot, tAndV, tOrV, tNotV, tIf, tOp, tUn, tChain, rEq, rNe, rI0, rI, rU, tCallR, tCons, tNil, tC, tVar, tRet, tRetN, tTup_k, tLst_k, tCB, tNext, tAsg, gName, gTup, gCons, gNil, tDrop, tPar, tFld, ClX.tCVal, tPropR, rBin, rBinT, rNeOwn, rSetL_k, gSub, tMakeK_k, tMethR, rInO, tDNewK_k, tYes, wipe, tMakeR_k, tSMeth, tSMethK, rMulS, decide_true, tNever, sFld, rIsiT, and_false, rListOf, rTupOf, rLenSeq, rIxL, rIxT, rIxS, rCat_k, rRep_k, rSlL_k, rSlS, rNewStrs_k, rAppend_k, tBM, tBM0, tM0, tM1, tSl, tNoPart, tPart, tLc_k, tFor_k, iList, iTup, iEnumT, iRng1, iRng2, iRng2L, iStr, L2.start, List.map, List.length_cons, List.length_nil, List.cons_append, List.nil_append, List.getElem?_cons_succ, List.getElem?_cons_zero, Option.some.injEq, V.int.injEq, V.bl.injEq, V.str.injEq, V.ref.injEq, exists_eq_left', exists_eq_left, and_assoc, exists_and_left, exists_eq, exists_eq', true_and, and_true, List.set_cons_zero, List.set_cons_succ, List.set, decide_eq_true_eq, Bool.not_eq_true', if_true, if_false, rIx, cx_K, nox_K, List.replicate_succ, List.replicate_zero, Nat.reduceSub, Bool.true_eq_false, Bool.false_eq_true, Nat.reduceAdd, List.cons.injEq, reduceCtorEq, false_and, false_or, or_false, tAug, rSetO, rJoin, rInDT, rRepT1]
    refine ⟨_, T.cr_Picture, _, _, cvM, _, _, _, rfl, ?_⟩
    rcases h with ⟨wd, hg, c, rfl, rfl, rfl, w0, w1, h0, h1, c0, c1, k⟩ | ⟨hb, k⟩ | ⟨wd, rfl, w0, w1, hb, k⟩ | ⟨wd, hg, rfl, rfl, w0, w1, h0, h1, hb, k⟩
    · refine .inl ⟨_, rfl, w0, w1, _, T.cr_Picture, _, _, cvM, _, _, _, rfl, .inl ⟨_, rfl, h0, h1, _, rfl, .inl ⟨_, rfl, c0, c1, ?_⟩⟩⟩
      obtain ⟨e1, e2⟩ := dig_S c0 c1
      simp only [tSeq, tIfS, tTest, tB, tAnd, tOr, tNot, tAndV, tOrV, tNotV, tIf, tOp, tUn, tChain, rEq, rNe, rI0, rI, rU, tCallR, tCons, tNil, tC, tVar, tRet, tRetN, tTup_k, tLst_k, tCB, tNext, tAsg, gName, gTup, gCons, gNil, tDrop, tPar, tFld, ClX.tCVal, tPropR, rBin, rBinT, rNeOwn, rSetL_k, gSub, tMakeK_k, tMethR, rInO, tDNewK_k, tYes, wipe, tMakeR_k, tSMeth, tSMethK, rMulS, decide_true, tNever, sFld, rIsiT, and_false, rListOf, rTupOf, rLenSeq, rIxL, rIxT, rIxS, rCat_k, rRep_k, rSlL_k, rSlS, rNewStrs_k, rAppend_k, tBM, tBM0, tM0, tM1, tSl, tNoPart, tPart, tLc_k, tFor_k, iList, iTup, iEnumT, iRng1, iRng2, iRng2L, iStr, L2.start, List.map, List.length_cons, List.length_nil, List.cons_append, List.nil_append, List.getElem?_cons_succ, List.getElem?_cons_zero, Option.some.injEq, V.int.injEq, V.bl.injEq, V.str.injEq, V.ref.injEq, exists_eq_left', exists_eq_left, and_assoc, exists_and_left, exists_eq, exists_eq', true_and, and_true, List.set_cons_zero, List.set_cons_succ, List.set, decide_eq_true_eq, Bool.not_eq_true', if_true, if_false, rIx, cx_K, nox_K, List.replicate_succ, List.replicate_zero, Nat.reduceSub, Bool.true_eq_false, Bool.false_eq_true, Nat.reduceAdd, List.cons.injEq, reduceCtorEq, false_and, false_or, or_false, tAug, rSetO, rJoin, rInDT, rRepT1]
      rw [e1, mul_one _ w0]
      refine ⟨e2, mulOk_one _ w0 (by omega), kNew.mk (by show 1 ≤ sizeLine; decide) fun l H1 f1 => ⟨l, rfl, _, f1.at_, by omega, by omega, ?_, kN.mk fun l2 H2 f2 => ?_⟩⟩
      · show 1 * hg.toNat ≤ sizeLine
        exact size200 (by omega)
      · have gp := good_plain w0 w1 h0 h1 c0 c1
        have e3 := plain_rows wd hg c
        have q := f2.at_
        rw [flat_one] at q
        have good : goodS (S (List.replicate wd.toNat (48 + c.toNat))) = true := goodS_S (fun d hd => by obtain ⟨_, rfl⟩ := List.mem_replicate.mp hd; omega) (by rw [List.length_replicate]; omega) (by rw [List.length_replicate]; omega)
        refine newPicX (.inl q) (by rw [List.length_replicate]; omega) (by rw [List.length_replicate]; omega) (fun y hy => ?_) (wrong_rep good _) fun x dx t H3 s3 hx ht => ?_
        · obtain ⟨_, rfl⟩ := List.mem_replicate.mp hy
          exact .inl ⟨_, rfl, by rw [SX.S_len, List.length_replicate]; omega⟩
        · exact k x H3 ((f1.same.trans f2.same).trans s3) ⟨dx, t, hx, by rw [e3]; exact ht⟩
    · exact .inr ⟨hb, k⟩
    · exact .inl ⟨_, rfl, w0, w1, _, T.cr_Picture, _, _, cvM, _, _, _, rfl, .inr ⟨hb, k⟩⟩
    · exact .inl ⟨_, rfl, w0, w1, _, T.cr_Picture, _, _, cvM, _, _, _, rfl, .inl ⟨_, rfl, h0, h1, _, rfl, .inr ⟨hb, k⟩⟩⟩
theorem ok_pgetE (T : Txt K mg a) : FnR P w K mg base (CX P w) 5 a.Picture_getitem (spPGetE K a.Picture a.BadPixel) := by
  have G_check_pixel : FnR P w K mg base (CX P w) 4 a.check_pixel (spChPixE K a.BadPixel) := ok_check_pixelE T
  refine T.d_Picture_getitem.okX sc_Picture_getitem (fun _ _ _ _ _ _ us hl => match us, hl with | [_, _], _ => rfl) (fun vs H Q E h => by obtain ⟨x, at_, w, rs, v, u, rfl, _⟩ := h; rfl) (fun cdv A outer s H vs Q E hr h => ?_)
  obtain ⟨p, at_, wd, rs, v, u, rfl, ⟨dx, t, hp, htr⟩, g, ht, hb, k⟩ := h
  refine ⟨_, (pss_cons (ps_asg (pv 1) (pg_tup rfl (pgs_cons (pg_name (i := 2) sc_Picture_getitem.nd rfl (Or.inl rfl)) (pgs_cons (pg_name (i := 3) sc_Picture_getitem.nd rfl (Or.inl rfl)) pgs_nil))))
      (pss_cons (ps_expr (pe_callR G_check_pixel (hr.mono (by decide)) T.m_check_pixel T.k_check_pixel (passUp (takes_of rfl rfl rfl rfl)) (pa_cons (pe_fld (pv 0) rfl) (pa_cons (pv 2) (pa_cons (pv 3) pa_nil)))))
      (pss_one (ps_never)))), ?_⟩
  simp only [tSeq, tIfS, tTest, tB, tAnd, tOr, tNot, tAndV, tOrV, tNotV, tIf, tOp, tUn, tChain, rEq, rNe, rI0, rI, rU, tCallR, tCons, tNil, tC, tVar, tRet, tRetN, tTup_k, tLst_k, tCB, tNext, tAsg, gName, gTup, gCons, gNil, tDrop, tPar, tFld, ClX.tCVal, tPropR, rBin, rBinT, rNeOwn, rSetL_k, gSub, tMakeK_k, tMethR, rInO, tDNewK_k, tYes, wipe, tMakeR_k, tSMeth, tSMethK, rMulS, decide_true, tNever, sFld, rIsiT, and_false, rListOf, rTupOf, rLenSeq, rIxL, rIxT, rIxS, rCat_k, rRep_k, rSlL_k, rSlS, rNewStrs_k, rAppend_k, tBM, tBM0, tM0, tM1, tSl, tNoPart, tPart, tLc_k, tFor_k, iList, iTup, iEnumT, iRng1, iRng2, iRng2L, iStr, L2.start, List.map, List.length_cons, List.length_nil, List.cons_append, List.nil_append, List.getElem?_cons_succ, List.getElem?_cons_zero, Option.some.injEq, V.int.injEq, V.bl.injEq, V.str.injEq, V.ref.injEq, exists_eq_left', exists_eq_left, and_assoc, exists_and_left, exists_eq, exists_eq', true_and, and_true, List.set_cons_zero, List.set_cons_succ, List.set, decide_eq_true_eq, Bool.not_eq_true', if_true, if_false, rIx, cx_K, nox_K, List.replicate_succ, List.replicate_zero, Nat.reduceSub, Bool.true_eq_false, Bool.false_eq_true, Nat.reduceAdd, List.cons.injEq, reduceCtorEq, false_and, false_or, or_false, tAug, rSetO, rJoin, rInDT, rRepT1]
  exact ⟨_, .inl (.inl ht), rfl, _, _, rfl, _, _, rfl, rfl, _, dx, _, hp, T.c_Picture.cl, T.a_Picture__rows, _, rfl, t, wd, rs, v, u, rfl, htr, g, .inr ⟨hb, k⟩⟩
theorem ok_regE (T : Txt K mg a) : FnR P w K mg base (CX P w) 5 a.Picture_region (spRegE K a.Picture a.BadPixel) := by
  have G_check_pixel : FnR P w K mg base (CX P w) 4 a.check_pixel (spChPixE K a.BadPixel) := ok_check_pixelE T
  refine T.d_Picture_region.okX sc_Picture_region (fun _ _ _ _ _ _ us hl => match us, hl with | [_, _, _], _ => rfl) (fun vs H Q E h => by obtain ⟨x, w, rs, v, u, rfl, _⟩ := h; rfl) (fun cdv A outer s H vs Q E hr h => ?_)
  obtain ⟨p, wd, rs, v, u, rfl, ⟨dx, t, hp, htr⟩, g, hb, k⟩ := h
  refine ⟨_, (pss_cons (ps_expr (pe_callR G_check_pixel (hr.mono (by decide)) T.m_check_pixel T.k_check_pixel (passUp (takes_of rfl rfl rfl rfl)) (pa_cons (pe_fld (pv 0) rfl) (pa_cons (pv 1) (pa_cons (pv 2) pa_nil)))))
      (pss_one (ps_never))), ?_⟩
  simp only [tSeq, tIfS, tTest, tB, tAnd, tOr, tNot, tAndV, tOrV, tNotV, tIf, tOp, tUn, tChain, rEq, rNe, rI0, rI, rU, tCallR, tCons, tNil, tC, tVar, tRet, tRetN, tTup_k, tLst_k, tCB, tNext, tAsg, gName, gTup, gCons, gNil, tDrop, tPar, tFld, ClX.tCVal, tPropR, rBin, rBinT, rNeOwn, rSetL_k, gSub, tMakeK_k, tMethR, rInO, tDNewK_k, tYes, wipe, tMakeR_k, tSMeth, tSMethK, rMulS, decide_true, tNever, sFld, rIsiT, and_false, rListOf, rTupOf, rLenSeq, rIxL, rIxT, rIxS, rCat_k, rRep_k, rSlL_k, rSlS, rNewStrs_k, rAppend_k, tBM, tBM0, tM0, tM1, tSl, tNoPart, tPart, tLc_k, tFor_k, iList, iTup, iEnumT, iRng1, iRng2, iRng2L, iStr, L2.start, List.map, List.length_cons, List.length_nil, List.cons_append, List.nil_append, List.getElem?_cons_succ, List.getElem?_cons_zero, Option.some.injEq, V.int.injEq, V.bl.injEq, V.str.injEq, V.ref.injEq, exists_eq_left', exists_eq_left, and_assoc, exists_and_left, exists_eq, exists_eq', true_and, and_true, List.set_cons_zero, List.set_cons_succ, List.set, decide_eq_true_eq, Bool.not_eq_true', if_true, if_false, rIx, cx_K, nox_K, List.replicate_succ, List.replicate_zero, Nat.reduceSub, Bool.true_eq_false, Bool.false_eq_true, Nat.reduceAdd, List.cons.injEq, reduceCtorEq, false_and, false_or, or_false, tAug, rSetO, rJoin, rInDT, rRepT1]
  exact ⟨_, dx, _, hp, T.c_Picture.cl, T.a_Picture__rows, _, rfl, t, wd, rs, v, u, rfl, htr, g, .inr ⟨hb, k⟩⟩
theorem ok_wayE (T : Txt K mg a) : FnR P w K mg base (CX P w) 5 a.Picture_way (spWayE K a.Picture a.BadPixel) := by
  have G_check_pixel : FnR P w K mg base (CX P w) 4 a.check_pixel (spChPixE K a.BadPixel) := ok_check_pixelE T
  refine T.d_Picture_way.okX sc_Picture_way (fun _ _ _ _ _ _ us hl => match us, hl with | [_, _, _, _, _], _ => rfl) (fun vs H Q E h => by obtain ⟨x, w, rs, v, u, v2, u2, rfl, _⟩ := h; rfl) (fun cdv A outer s H vs Q E hr h => ?_)
  obtain ⟨p, wd, rs, v, u, v2, u2, rfl, ⟨dx, t, hp, htr⟩, g, h⟩ := h
  refine ⟨_, (pss_cons (ps_expr (pe_callR G_check_pixel (hr.mono (by decide)) T.m_check_pixel T.k_check_pixel (passUp (takes_of rfl rfl rfl rfl)) (pa_cons (pe_fld (pv 0) rfl) (pa_cons (pv 1) (pa_cons (pv 2) pa_nil)))))
      (pss_cons (ps_expr (pe_callR G_check_pixel (hr.mono (by decide)) T.m_check_pixel T.k_check_pixel (passUp (takes_of rfl rfl rfl rfl)) (pa_cons (pe_fld (pv 0) rfl) (pa_cons (pv 3) (pa_cons (pv 4) pa_nil)))))
      (pss_one (ps_never)))), ?_⟩
  simp only [tSeq, tIfS, tTest, tB, tAnd, tOr, tNot, tAndV, tOrV, tNotV, tIf, tOp, tUn, tChain, rEq, rNe, rI0, rI, rU, tCallR, tCons, tNil, tC, tVar, tRet, tRetN, tTup_k, tLst_k, tCB, tNext, tAsg, gName, gTup, gCons, gNil, tDrop, tPar, tFld, ClX.tCVal, tPropR, rBin, rBinT, rNeOwn, rSetL_k, gSub, tMakeK_k, tMethR, rInO, tDNewK_k, tYes, wipe, tMakeR_k, tSMeth, tSMethK, rMulS, decide_true, tNever, sFld, rIsiT, and_false, rListOf, rTupOf, rLenSeq, rIxL, rIxT, rIxS, rCat_k, rRep_k, rSlL_k, rSlS, rNewStrs_k, rAppend_k, tBM, tBM0, tM0, tM1, tSl, tNoPart, tPart, tLc_k, tFor_k, iList, iTup, iEnumT, iRng1, iRng2, iRng2L, iStr, L2.start, List.map, List.length_cons, List.length_nil, List.cons_append, List.nil_append, List.getElem?_cons_succ, List.getElem?_cons_zero, Option.some.injEq, V.int.injEq, V.bl.injEq, V.str.injEq, V.ref.injEq, exists_eq_left', exists_eq_left, and_assoc, exists_and_left, exists_eq, exists_eq', true_and, and_true, List.set_cons_zero, List.set_cons_succ, List.set, decide_eq_true_eq, Bool.not_eq_true', if_true, if_false, rIx, cx_K, nox_K, List.replicate_succ, List.replicate_zero, Nat.reduceSub, Bool.true_eq_false, Bool.false_eq_true, Nat.reduceAdd, List.cons.injEq, reduceCtorEq, false_and, false_or, or_false, tAug, rSetO, rJoin, rInDT, rRepT1]
  refine ⟨_, dx, _, hp, T.c_Picture.cl, T.a_Picture__rows, _, rfl, t, wd, rs, v, u, rfl, htr, g, ?_⟩
  rcases h with ⟨hb, k⟩ | ⟨i, j, rfl, rfl, i0, i1, j0, j1, hb, k⟩
  · exact .inr ⟨hb, k⟩
  · refine .inl ⟨_, _, rfl, rfl, i0, i1, j0, j1, ?_⟩
    simp only [tSeq, tIfS, tTest, tB, tAnd, tOr, tNot, tAndV, tOrV, tNotV, tIf, tOp, tUn, tChain, rEq, rNe, rI0, rI, rU, tCallR, tCons, tNil, tC, tVar, tRet, tRetN, tTup_k, tLst_k, tCB, tNext, tAsg, gName, gTup, gCons, gNil, tDrop, tPar, tFld, ClX.tCVal, tPropR, rBin, rBinT, rNeOwn, rSetL_k, gSub, tMakeK_k, tMethR, rInO, tDNewK_k, tYes, wipe, tMakeR_k, tSMeth, tSMethK, rMulS, decide_true, tNever, sFld, rIsiT, and_false, rListOf, rTupOf, rLenSeq, rIxL, rIxT, rIxS, rCat_k, rRep_k, rSlL_k, rSlS, rNewStrs_k, rAppend_k, tBM, tBM0, tM0, tM1, tSl, tNoPart, tPart, tLc_k, tFor_k, iList, iTup, iEnumT, iRng1, iRng2, iRng2L, iStr, L2.start, List.map, List.length_cons, List.length_nil, List.cons_append, List.nil_append, List.getElem?_cons_succ, List.getElem?_cons_zero, Option.some.injEq, V.int.injEq, V.bl.injEq, V.str.injEq, V.ref.injEq, exists_eq_left', exists_eq_left, and_assoc, exists_and_left, exists_eq, exists_eq', true_and, and_true, List.set_cons_zero, List.set_cons_succ, List.set, decide_eq_true_eq, Bool.not_eq_true', if_true, if_false, rIx, cx_K, nox_K, List.replicate_succ, List.replicate_zero, Nat.reduceSub, Bool.true_eq_false, Bool.false_eq_true, Nat.reduceAdd, List.cons.injEq, reduceCtorEq, false_and, false_or, or_false, tAug, rSetO, rJoin, rInDT, rRepT1]
    exact ⟨_, dx, _, hp, T.c_Picture.cl, T.a_Picture__rows, _, rfl, t, wd, rs, v2, u2, rfl, htr, g, .inr ⟨hb, k⟩⟩
theorem ok_areaE (T : Txt K mg a) : FnR P w K mg base (CX P w) 5 a.Picture_area (spAreaE K a.BadColour) := by
  have G_check_colour : FnR P w K mg base (CX P w) 4 a.check_colour (spChColE K a.BadColour) := ok_check_colourE T
  refine T.d_Picture_area.okX sc_Picture_area (fun _ _ _ _ _ _ us hl => match us, hl with | [_, _], _ => rfl) (fun vs H Q E h => by obtain ⟨x, v, rfl, _⟩ := h; rfl) (fun cdv A outer s H vs Q E hr h => ?_)
  obtain ⟨x, v, rfl, hb, k⟩ := h
  refine ⟨_, (pss_cons (ps_expr (pe_callR G_check_colour (hr.mono (by decide)) T.m_check_colour T.k_check_colour (passUp (takes_of rfl rfl rfl rfl)) (pa_cons (pv 1) pa_nil)))
      (pss_one (ps_never))), ?_⟩
  simp only [tSeq, tIfS, tTest, tB, tAnd, tOr, tNot, tAndV, tOrV, tNotV, tIf, tOp, tUn, tChain, rEq, rNe, rI0, rI, rU, tCallR, tCons, tNil, tC, tVar, tRet, tRetN, tTup_k, tLst_k, tCB, tNext, tAsg, gName, gTup, gCons, gNil, tDrop, tPar, tFld, ClX.tCVal, tPropR, rBin, rBinT, rNeOwn, rSetL_k, gSub, tMakeK_k, tMethR, rInO, tDNewK_k, tYes, wipe, tMakeR_k, tSMeth, tSMethK, rMulS, decide_true, tNever, sFld, rIsiT, and_false, rListOf, rTupOf, rLenSeq, rIxL, rIxT, rIxS, rCat_k, rRep_k, rSlL_k, rSlS, rNewStrs_k, rAppend_k, tBM, tBM0, tM0, tM1, tSl, tNoPart, tPart, tLc_k, tFor_k, iList, iTup, iEnumT, iRng1, iRng2, iRng2L, iStr, L2.start, List.map, List.length_cons, List.length_nil, List.cons_append, List.nil_append, List.getElem?_cons_succ, List.getElem?_cons_zero, Option.some.injEq, V.int.injEq, V.bl.injEq, V.str.injEq, V.ref.injEq, exists_eq_left', exists_eq_left, and_assoc, exists_and_left, exists_eq, exists_eq', true_and, and_true, List.set_cons_zero, List.set_cons_succ, List.set, decide_eq_true_eq, Bool.not_eq_true', if_true, if_false, rIx, cx_K, nox_K, List.replicate_succ, List.replicate_zero, Nat.reduceSub, Bool.true_eq_false, Bool.false_eq_true, Nat.reduceAdd, List.cons.injEq, reduceCtorEq, false_and, false_or, or_false, tAug, rSetO, rJoin, rInDT, rRepT1]
  exact ⟨_, rfl, .inr ⟨hb, k⟩⟩
theorem ok_axE (T : Txt K mg a) : FnR P w K mg base (CX P w) 3 a.check_axis (spAxE K a.BadDeed) := by
  obtain ⟨_, O_BadDeed, B_BadDeed⟩ := ok_baddeed (P := P) (w := w) (base := base) T
  refine T.d_check_axis.okX sc_check_axis (fun _ _ _ _ _ _ us hl => match us, hl with | [_], _ => rfl) (fun vs H Q E h => by obtain ⟨v, rfl, _⟩ := h; rfl) (fun cdv A outer s H vs Q E hr h => ?_)
  obtain ⟨v, rfl, ⟨d, hd, sh, e1, e2⟩, k⟩ := h
  refine ⟨_, (pss_one (ps_if (pt_cmpR (op_notInDT hr.in1.units) (pv 0) (pe_glob (v := .ref a.AXES) rfl T.m_AXES rfl) (by rfl))
          (pss_one (ps_raise rfl (takes_of rfl rfl rfl rfl) (pmk_oex T.e_BadDeed.ox T.e_BadDeed.iC T.e_BadDeed.tI O_BadDeed (hr.mono (by decide)) B_BadDeed .nil pass0 rfl T.m_BadDeed (pa_cons pe_str pa_nil))))
          pss_nil)), ?_⟩
  simp only [tSeq, tIfS, tTest, tB, tAnd, tOr, tNot, tAndV, tOrV, tNotV, tIf, tOp, tUn, tChain, rEq, rNe, rI0, rI, rU, tCallR, tCons, tNil, tC, tVar, tRet, tRetN, tTup_k, tLst_k, tCB, tNext, tAsg, gName, gTup, gCons, gNil, tDrop, tPar, tFld, ClX.tCVal, tPropR, rBin, rBinT, rNeOwn, rSetL_k, gSub, tMakeK_k, tMethR, rInO, tDNewK_k, tYes, wipe, tMakeR_k, tSMeth, tSMethK, rMulS, decide_true, tNever, sFld, rIsiT, and_false, rListOf, rTupOf, rLenSeq, rIxL, rIxT, rIxS, rCat_k, rRep_k, rSlL_k, rSlS, rNewStrs_k, rAppend_k, tBM, tBM0, tM0, tM1, tSl, tNoPart, tPart, tLc_k, tFor_k, iList, iTup, iEnumT, iRng1, iRng2, iRng2L, iStr, L2.start, List.map, List.length_cons, List.length_nil, List.cons_append, List.nil_append, List.getElem?_cons_succ, List.getElem?_cons_zero, Option.some.injEq, V.int.injEq, V.bl.injEq, V.str.injEq, V.ref.injEq, exists_eq_left', exists_eq_left, and_assoc, exists_and_left, exists_eq, exists_eq', true_and, and_true, List.set_cons_zero, List.set_cons_succ, List.set, decide_eq_true_eq, Bool.not_eq_true', if_true, if_false, rIx, cx_K, nox_K, List.replicate_succ, List.replicate_zero, Nat.reduceSub, Bool.true_eq_false, Bool.false_eq_true, Nat.reduceAdd, List.cons.injEq, reduceCtorEq, false_and, false_or, or_false, tAug, rSetO, rJoin, rInDT, rRepT1]
  refine ⟨d, hd, [PyData.str "across", PyData.str "down"], .tup (.inr T.t_AXES) (.cons (.str _) (.cons (.str _) .nil)), sh, by decide +kernel, ?_⟩
  rw [show ([.str "across", .str "down"] : List PyData).any (fun z => PyData.eqv z d) = false by simp [e1, e2]]
  rw [if_pos rfl]
  exact err1_made k
theorem ok_flipE (T : Txt K mg a) : FnR P w K mg base (CX P w) 5 a.Picture_flipped (spFlipE K a.BadDeed) := by
  have G_check_axis : FnR P w K mg base (CX P w) 3 a.check_axis (spAxE K a.BadDeed) := ok_axE T
  refine T.d_Picture_flipped.okX sc_Picture_flipped (fun _ _ _ _ _ _ us hl => match us, hl with | [_, _], _ => rfl) (fun vs H Q E h => by obtain ⟨x, v, rfl, _⟩ := h; rfl) (fun cdv A outer s H vs Q E hr h => ?_)
  obtain ⟨x, v, rfl, hb, k⟩ := h
  refine ⟨_, (pss_cons (ps_expr (pe_callR G_check_axis (hr.mono (by decide)) T.m_check_axis T.k_check_axis (passUp (takes_of rfl rfl rfl rfl)) (pa_cons (pv 1) pa_nil)))
      (pss_one (ps_never))), ?_⟩
  simp only [tSeq, tIfS, tTest, tB, tAnd, tOr, tNot, tAndV, tOrV, tNotV, tIf, tOp, tUn, tChain, rEq, rNe, rI0, rI, rU, tCallR, tCons, tNil, tC, tVar, tRet, tRetN, tTup_k, tLst_k, tCB, tNext, tAsg, gName, gTup, gCons, gNil, tDrop, tPar, tFld, ClX.tCVal, tPropR, rBin, rBinT, rNeOwn, rSetL_k, gSub, tMakeK_k, tMethR, rInO, tDNewK_k, tYes, wipe, tMakeR_k, tSMeth, tSMethK, rMulS, decide_true, tNever, sFld, rIsiT, and_false, rListOf, rTupOf, rLenSeq, rIxL, rIxT, rIxS, rCat_k, rRep_k, rSlL_k, rSlS, rNewStrs_k, rAppend_k, tBM, tBM0, tM0, tM1, tSl, tNoPart, tPart, tLc_k, tFor_k, iList, iTup, iEnumT, iRng1, iRng2, iRng2L, iStr, L2.start, List.map, List.length_cons, List.length_nil, List.cons_append, List.nil_append, List.getElem?_cons_succ, List.getElem?_cons_zero, Option.some.injEq, V.int.injEq, V.bl.injEq, V.str.injEq, V.ref.injEq, exists_eq_left', exists_eq_left, and_assoc, exists_and_left, exists_eq, exists_eq', true_and, and_true, List.set_cons_zero, List.set_cons_succ, List.set, decide_eq_true_eq, Bool.not_eq_true', if_true, if_false, rIx, cx_K, nox_K, List.replicate_succ, List.replicate_zero, Nat.reduceSub, Bool.true_eq_false, Bool.false_eq_true, Nat.reduceAdd, List.cons.injEq, reduceCtorEq, false_and, false_or, or_false, tAug, rSetO, rJoin, rInDT, rRepT1]
  exact ⟨v, rfl, hb, k⟩
end
end Pf
end
section
namespace Pf
open PySem PySem.Spec PyProof.Rows L2 Ow StX
open SX (S)
/-! ### what the law does itself -/
/-- what `_law_heard` makes of what it asks -/
def TTh (C0 C1 C2 C3 C4 : Addr) (tl : XK → Hp → VK → Prop) (H : Hp) (Q : VK) : Prop :=
  tl (fun cls d H1 => (cls = .ref C0 ∧ ∃ (dd : Addr) (fs : List (Str × V)) (v0 : V), d = some dd ∧ H1 dd = some (.xd fs) ∧ fs.lookup ("value" : Str) = some v0 ∧ kN (.tup [.str "colour", v0]) Q H1) ∨
    (cls = .ref C1 ∧ ∃ (dd : Addr) (fs : List (Str × V)) (v0 : V), d = some dd ∧ H1 dd = some (.xd fs) ∧ fs.lookup ("part" : Str) = some v0 ∧ kN (.tup [.str "deed", v0]) Q H1) ∨
    (cls = .ref C2 ∧ ∃ (dd : Addr) (fs : List (Str × V)) (v0 : V), d = some dd ∧ H1 dd = some (.xd fs) ∧ fs.lookup ("row" : Str) = some v0 ∧ kN (.tup [.str "picture", v0]) Q H1) ∨
    (cls = .ref C3 ∧ ∃ (dd : Addr) (fs : List (Str × V)) (v0 v1 : V), d = some dd ∧ H1 dd = some (.xd fs) ∧ fs.lookup ("x" : Str) = some v0 ∧ fs.lookup ("y" : Str) = some v1 ∧ kN (.tup [.str "pixel", v0, v1]) Q H1) ∨
    (cls = .ref C4 ∧ ∃ (dd : Addr) (fs : List (Str × V)) (v0 : V), d = some dd ∧ H1 dd = some (.xd fs) ∧ fs.lookup ("part" : Str) = some v0 ∧ kN (.tup [.str "size", v0]) Q H1))
    H (fun v H1 => kNew .lst Q [v] H1)
/-- return [ask()], ask a handed lambda that may raise -/
theorem ret_ask {X : Cx} {f c' : Addr} {q : Str} {tl : XK → Hp → VK → Prop} {W : WX} {n : Str} {p1 p2 pt ps : Pos}
    (act : ∀ E : XK, (∀ cls d σ' H', E cls d H' → W cls d σ' H') → PE X (.Call (.Name n p1) [] [] p2) (fun σZ HZ Q => σZ[0]? = some (some (.ref f)) ∧ HZ c' = some (LamX.CodeO c' q) ∧ tl E HZ Q)) :
    PSs X [.Return (some (.List [.Call (.Name n p1) [] [] p2] pt)) ps] (fun D σ H => ∃ Ech : XK, (∀ cls d σ' H', Ech cls d H' → W cls d σ' H') ∧ σ[0]? = some (some (.ref f)) ∧ H c' = some (LamX.CodeO c' q) ∧
      tl Ech H (fun v H1 => kNew .lst D.rt [v] H1)) := by
  refine ⟨fun pins s' σ H' D I ⟨Ech, hW, h1, h2, h3⟩ => ?_⟩
  exact (pss_one (ps_ret (pe_lst (pa_cons (act Ech hW) pa_nil)))).run pins s' σ H' D I ⟨h1, h2, h3⟩
theorem heard_gives {X : Cx} {a : Adr} {g : Addr} {cdv : Value} {q : Str} (T : Txt X.K X.mg a) : LamX.GivesTo X ["_law_ask", "error"] "_law_heard" (defScope s__law_heard) g cdv (defBody s__law_heard) "_law_ask" q (TTh a.BadColour a.BadDeed a.BadPicture a.BadPixel a.BadSize) := by
  intro f c' s H Q tl act hc h
  refine ⟨_, pss_one (ps_try_mix rfl rfl sc__law_heard.nd LamX.takes0 (fun W pn xe tk _ => ret_ask fun E hW => act W pn xe E _ _ tk hW)
    (.named (i := 1) rfl rfl ⟨rfl, by decide, .inl T.m_BadColour⟩ (fun b oe cls d pn hz hf => pss_len 2 (by rfl) (pss_one (ps_ret (pe_tup (pa_cons pe_str (pa_cons (pe_xf T.xf_BadColour T.a_BadColour_value hz hf (pv 1)) pa_nil))))))
    (.named (i := 1) rfl rfl ⟨rfl, by decide, .inl T.m_BadDeed⟩ (fun b oe cls d pn hz hf => pss_len 2 (by rfl) (pss_one (ps_ret (pe_tup (pa_cons pe_str (pa_cons (pe_xf T.xf_BadDeed T.a_BadDeed_part hz hf (pv 1)) pa_nil))))))
    (.named (i := 1) rfl rfl ⟨rfl, by decide, .inl T.m_BadPicture⟩ (fun b oe cls d pn hz hf => pss_len 2 (by rfl) (pss_one (ps_ret (pe_tup (pa_cons pe_str (pa_cons (pe_xf T.xf_BadPicture T.a_BadPicture_row hz hf (pv 1)) pa_nil))))))
    (.named (i := 1) rfl rfl ⟨rfl, by decide, .inl T.m_BadPixel⟩ (fun b oe cls d pn hz hf => pss_len 2 (by rfl) (pss_one (ps_ret (pe_tup (pa_cons pe_str (pa_cons (pe_xf T.xf_BadPixel T.a_BadPixel_x hz hf (pv 1)) (pa_cons (pe_xf T.xf_BadPixel T.a_BadPixel_y hz hf (pv 1)) pa_nil)))))))
    (.named (i := 1) rfl rfl ⟨rfl, by decide, .inl T.m_BadSize⟩ (fun b oe cls d pn hz hf => pss_len 2 (by rfl) (pss_one (ps_ret (pe_tup (pa_cons pe_str (pa_cons (pe_xf T.xf_BadSize T.a_BadSize_part hz hf (pv 1)) pa_nil))))))
    (.plain ⟨rfl, by decide, .inl T.m_HoldError⟩ (fun b oe cls d pn hz hf => pss_one (ps_ret (pe_tup (pa_cons pe_str pa_nil)))) .nil))))))), ?_⟩
  refine ⟨_, fun cls d σ' H' hE => ?_, rfl, hc, h⟩
  rcases hE with ⟨rfl, dd, fs, v0, rfl, hdd, hv0, k⟩ | ⟨rfl, dd, fs, v0, rfl, hdd, hv0, k⟩ | ⟨rfl, dd, fs, v0, rfl, hdd, hv0, k⟩ | ⟨rfl, dd, fs, v0, v1, rfl, hdd, hv0, hv1, k⟩ | ⟨rfl, dd, fs, v0, rfl, hdd, hv0, k⟩
  · refine ⟨true, T.xm_BadColour_BadColour, (fun _ x hx hlen => ?_), fun z => by cases z⟩
    have hs : (σ'.set 1 (some (V.ref x)))[1]? = some (some (V.ref x)) := by
      rw [List.length_set] at hlen
      rw [List.getElem?_set_self (by rw [hlen]; decide)]
    exact ⟨_, hs, rfl, rfl, dd, fs, v0, rfl, hdd, hv0, (by show 2 ≤ sizeLine; decide), k⟩
  · refine ⟨false, T.xmn_BadDeed_BadColour, (fun z => by cases z), fun _ => ⟨true, T.xm_BadDeed_BadDeed, (fun _ x hx hlen => ?_), fun z => by cases z⟩⟩
    have hs : (σ'.set 1 (some (V.ref x)))[1]? = some (some (V.ref x)) := by
      rw [List.length_set] at hlen
      rw [List.getElem?_set_self (by rw [hlen]; decide)]
    exact ⟨_, hs, rfl, rfl, dd, fs, v0, rfl, hdd, hv0, (by show 2 ≤ sizeLine; decide), k⟩
  · refine ⟨false, T.xmn_BadPicture_BadColour, (fun z => by cases z), fun _ => ⟨false, T.xmn_BadPicture_BadDeed, (fun z => by cases z), fun _ => ⟨true, T.xm_BadPicture_BadPicture, (fun _ x hx hlen => ?_), fun z => by cases z⟩⟩⟩
    have hs : (σ'.set 1 (some (V.ref x)))[1]? = some (some (V.ref x)) := by
      rw [List.length_set] at hlen
      rw [List.getElem?_set_self (by rw [hlen]; decide)]
    exact ⟨_, hs, rfl, rfl, dd, fs, v0, rfl, hdd, hv0, (by show 2 ≤ sizeLine; decide), k⟩
  · refine ⟨false, T.xmn_BadPixel_BadColour, (fun z => by cases z), fun _ => ⟨false, T.xmn_BadPixel_BadDeed, (fun z => by cases z), fun _ => ⟨false, T.xmn_BadPixel_BadPicture, (fun z => by cases z), fun _ => ⟨true, T.xm_BadPixel_BadPixel, (fun _ x hx hlen => ?_), fun z => by cases z⟩⟩⟩⟩
    have hs : (σ'.set 1 (some (V.ref x)))[1]? = some (some (V.ref x)) := by
      rw [List.length_set] at hlen
      rw [List.getElem?_set_self (by rw [hlen]; decide)]
    exact ⟨_, hs, rfl, rfl, dd, fs, v0, rfl, hdd, hv0, _, hs, rfl, rfl, dd, fs, v1, rfl, hdd, hv1, (by show 3 ≤ sizeLine; decide), k⟩
  · refine ⟨false, T.xmn_BadSize_BadColour, (fun z => by cases z), fun _ => ⟨false, T.xmn_BadSize_BadDeed, (fun z => by cases z), fun _ => ⟨false, T.xmn_BadSize_BadPicture, (fun z => by cases z), fun _ => ⟨false, T.xmn_BadSize_BadPixel, (fun z => by cases z), fun _ => ⟨true, T.xm_BadSize_BadSize, (fun _ x hx hlen => ?_), fun z => by cases z⟩⟩⟩⟩⟩
    have hs : (σ'.set 1 (some (V.ref x)))[1]? = some (some (V.ref x)) := by
      rw [List.length_set] at hlen
      rw [List.getElem?_set_self (by rw [hlen]; decide)]
    exact ⟨_, hs, rfl, rfl, dd, fs, v0, rfl, hdd, hv0, (by show 2 ≤ sizeLine; decide), k⟩
/-- _law_heard(lambda: body) -/
theorem pe_heard {X : Cx} {a : Adr} {c T : Addr} {k : Nat} {TL : List (Addr × Str)} {params : Arguments} {body : Expr} {scope : Scope} {t : XK → TE} {p lpos pos : Pos} (D : Txt X.K X.mg a) (hg : Gl X "_law_heard") (TB : LamX.TabB X.base X.mg c T) (hcode : X.env.code = .ref c) (hmT : (T, X.env.qual ++ Str.ofString "<lambda>") ∈ TL)
    (hu : ∀ p : Addr × Str, p ∈ TL → p.1 = T → p.2 = X.env.qual ++ Str.ofString "<lambda>") (hr : Room (k + 2) X.A) (L : LamX.LamS X.env.scope scope) (hdef : defaultsOf params X.env = ([], []))
    (hbind : ∀ (q : Str) (cl : List (Str × Addr)) (pm cv ctv : Value), bindArgs (PySem.W.kla_fn (Str.ofString "<lambda>") q params body scope cl pm cv ctv) ⟨[], []⟩ = pure [])
    (hbody : ∀ (A : Around) (outer : List Env) (s : Shared) (H : Hp) (E : XK) (f c' : Addr), Room k (A.deeper (LamX.lamEnv X scope s.heap.objs.size f c')) → PE (LamX.lamCx X A outer s H E scope f c') body (t E)) :
    PE X (.Call (.Name "_law_heard" p) [.Lambda params body scope lpos] [] pos) (LamX.tLam TL (TTh a.BadColour a.BadDeed a.BadPicture a.BadPixel a.BadSize) t) := by
  obtain ⟨fd, FD⟩ := id D.d__law_heard
  have hb : Binds X.K fd ["_law_ask"] [] := FD.bindsN (fun _ _ _ _ _ _ us hl => match us, hl with | [_], _ => rfl)
  obtain ⟨oc, od, dV, kV, doc, pm, an, cdv, ct, osl, rfl, lk, hcd, _, _⟩ := FD.ex
  exact LamX.pe_lamcall hg D.m__law_heard D.k__law_heard lk hcd hb sc__law_heard rfl (Or.inl rfl) (heard_gives D) TB hcode hmT hu hr L hdef hbind hbody
end Pf
end
section
namespace Pf
open PySem PySem.Spec PyProof.Rows L2 Ow StX
open SX (S)
theorem Pen.le {H : Hp} {p c : Addr} {n m : Int} (x : Pen H p c n) (h : n ≤ m) : Pen H p c m := by
  obtain ⟨ns, b, r, h1, h2, h3, h4, h5, h6, h7⟩ := x
  exact ⟨ns, b, r, h1, h2, h3, h4, h5, by omega, h7⟩
theorem Pen.at_p {H : Hp} {p c x : Addr} {n : Int} (P : Pen H p c n) (h : H x = none) : x ≠ p ∧ c ≠ x := by
  obtain ⟨ns, b, r, h1, h2, _⟩ := P
  exact ⟨fun e => (by rw [← e, h] at h1; cases h1), fun e => (by rw [e, h] at h2; cases h2)⟩
theorem Pen.put {H : Hp} {p c x : Addr} {n : Int} {o : HO} (P : Pen H p c n) (hp : x ≠ p) (hc : c ≠ x) : Pen (upd H x o) p c n := by
  obtain ⟨ns, b, r, h1, h2, h⟩ := P
  exact ⟨ns, b, r, by rw [upd_ne (Ne.symm hp)]; exact h1, by rw [upd_ne hc]; exact h2, h⟩
theorem Pen.ne {H : Hp} {p c t : Addr} {n : Int} {o : HO} (x : Pen H p c n) (h : H t = some o) (q : ∀ xs, o ≠ .lst xs) : t ≠ p := by
  obtain ⟨ns, b, r, h1, _⟩ := x
  exact ne_of h h1 (q _)
theorem tabs_but {TL : List (Addr × Str)} {H H' : Hp} {d : Addr} {o : HO} (t : LamX.Tabs TL H) (h : H d = some o) (h1 : ∀ ps, o ≠ .tbl ps) (h2 : ∀ f, o ≠ .ext f) (s : SameBut d H H') : LamX.Tabs TL H' := fun p hp => by
  obtain ⟨ps, e1, e2, e3⟩ := t p hp
  have ne : ∀ {b : Addr} {u : HO}, H b = some u → u ≠ o → b ≠ d := fun e n z => by
    rw [z, h] at e
    exact n (Option.some.inj e).symm
  refine ⟨ps, s _ _ (ne e1 fun z => h1 _ z.symm) e1, e2, fun pos cv hc => ?_⟩
  obtain ⟨c, q1, q2⟩ := e3 pos cv hc
  exact ⟨c, q1, s _ _ (ne q2 fun z => by unfold LamX.CodeO at z; exact h2 _ z.symm) q2⟩
theorem tabs_same {TL : List (Addr × Str)} {H H' : Hp} (t : LamX.Tabs TL H) (s : Same H H') : LamX.Tabs TL H' := fun p hp => by
  obtain ⟨ps, e1, e2, e3⟩ := t p hp
  exact ⟨ps, s _ _ e1, e2, fun pos cv hc => (e3 pos cv hc).elim fun c q => ⟨c, q.1, s _ _ q.2⟩⟩
theorem Pen.obj {H : Hp} {p c : Addr} {n : Int} (P : Pen H p c n) : ∃ b r : Int, H p = some (.lst [.ref c, .int b, .int r]) := by
  obtain ⟨ns, b, r, h1, _⟩ := P
  exact ⟨b, r, h1⟩
theorem tabs_pen {TL : List (Addr × Str)} {H H' : Hp} {p c : Addr} {n : Int} (t : LamX.Tabs TL H) (P : Pen H p c n) (s : SameBut p H H') : LamX.Tabs TL H' := by
  obtain ⟨b, r, h⟩ := P.obj
  exact tabs_but t h (fun _ z => by cases z) (fun _ z => by cases z) s
theorem Pen.ext {H H' : Hp} {p c : Addr} {n : Int} (P : Pen H p c n) (s : LamX.ExtN H H') : Pen H' p c n := by
  obtain ⟨ns, b, r, e1, e2, e⟩ := P
  exact ⟨ns, b, r, s _ _ e1 (fun _ z => by cases z), s _ _ e2 (fun _ z => by cases z), e⟩
theorem lst_ext {H H' : Hp} {l : Addr} {xs : List V} (h : H l = some (.lst xs)) (s : LamX.ExtN H H') : H' l = some (.lst xs) := s _ _ h fun _ z => by cases z
theorem Pen.ne_new {H : Hp} {p c l : Addr} {n : Int} (x : Pen H p c n) (nl : H l = none) : l ≠ p := fun e => by
  obtain ⟨ns, b, r, h1, _⟩ := x
  rw [e, h1] at nl
  cases nl
def ExtB (p : Addr) (H H' : Hp) : Prop := ∀ b o, b ≠ p → H b = some o → (∀ ps, o ≠ .tbl ps) → H' b = some o
theorem ExtB.same {p : Addr} {H H' : Hp} (s : Same H H') : ExtB p H H' := fun b o _ e _ => s b o e
theorem ExtB.but {p : Addr} {H H' : Hp} (s : SameBut p H H') : ExtB p H H' := fun b o n e _ => s b o n e
theorem ExtB.ext {p : Addr} {H H' : Hp} (s : LamX.ExtN H H') : ExtB p H H' := fun b o _ e n => s b o e n
theorem ExtB.trans {p : Addr} {H H1 H2 : Hp} (x : ExtB p H H1) (y : ExtB p H1 H2) : ExtB p H H2 := fun b o n e z => y b o n (x b o n e z) z
structure Sh (d : PyData) : Prop where
  s : d.showable = true
  dp : d.depth ≤ 3
  l : d.leavesShort 62 = true
  w : d.weight ≤ 300
theorem log_le {i : Nat} (h : i ≤ 1000) : i.log2 < 10 := by
  by_cases e : i = 0
  · rw [e]; decide
  · exact (Nat.log2_lt e).mpr (by omega)
theorem Sh.int {i : Int} (h : i.natAbs ≤ 1000) : Sh (.int i) := by
  have l := log_le h
  refine ⟨decide_eq_true (by omega), by simp [PyData.depth], ?_, ?_⟩
  · simp only [PyData.leavesShort, decide_eq_true_eq]
    exact Nat.le_trans (PyData.shown_int_le (by omega)) (by decide)
  · simp only [PyData.weight]
    split <;> omega
theorem Sh.big {i : Int} (h1 : PyData.showable (.int i) = true) (h2 : PyData.leavesShort 62 (.int i) = true) (h3 : PyData.weight (.int i) ≤ 300) : Sh (.int i) := ⟨h1, by simp [PyData.depth], h2, h3⟩
theorem Sh.tup2 {s : Str} {d : PyData} (hs : Sh (.str s)) (h : Sh d) : (PyData.tuple [.str s, d]).showable = true ∧ (PyData.tuple [.str s, d]).depth ≤ 8 ∧ (PyData.tuple [.str s, d]).shown.length ≤ sizeLine := by
  obtain ⟨a1, a2, a3, a4⟩ := hs
  obtain ⟨b1, b2, b3, b4⟩ := h
  refine ⟨by simp [PyData.showable, PyData.showableAll, b1], by simp only [PyData.depth, PyData.depthAll] at *; omega, ?_⟩
  refine Nat.le_trans (PyData.shown_le 62 (by decide) _ (by show (PyData.leavesShort 62 (.str s) && (PyData.leavesShort 62 d && true)) = true; rw [a3, b3]; rfl)) ?_
  simp only [PyData.weight, PyData.weightAll] at *
  exact Nat.le_trans (Nat.add_le_add_right (Nat.mul_le_mul_left 64 (show _ ≤ 3000 by omega)) 62) (by decide)
theorem Sh.tup3 {s : Str} {d e : PyData} (hs : Sh (.str s)) (h : Sh d) (h' : Sh e) : (PyData.tuple [.str s, d, e]).showable = true ∧ (PyData.tuple [.str s, d, e]).depth ≤ 8 ∧ (PyData.tuple [.str s, d, e]).shown.length ≤ sizeLine := by
  obtain ⟨a1, a2, a3, a4⟩ := hs
  obtain ⟨b1, b2, b3, b4⟩ := h
  obtain ⟨c1, c2, c3, c4⟩ := h'
  refine ⟨by simp [PyData.showable, PyData.showableAll, b1, c1], by simp only [PyData.depth, PyData.depthAll] at *; omega, ?_⟩
  refine Nat.le_trans (PyData.shown_le 62 (by decide) _ (by show (PyData.leavesShort 62 (.str s) && (PyData.leavesShort 62 d && (PyData.leavesShort 62 e && true))) = true; rw [a3, b3, c3]; rfl)) ?_
  simp only [PyData.weight, PyData.weightAll] at *
  exact Nat.le_trans (Nat.add_le_add_right (Nat.mul_le_mul_left 64 (show _ ≤ 4000 by omega)) 62) (by decide)
inductive OddV (m : Int) (H : Hp) : V → Prop
  | neg : OddV m H (.int (-1))
  | top : OddV m H (.int (m + 1))
  | big : OddV m H (.int (10 ^ Int.toNat 59))
  | low : OddV m H (.int (-10 ^ Int.toNat 59))
  | non : OddV m H .non
  | bl (b : Bool) : OddV m H (.bl b)
  | s0 : OddV m H (.str "0")
  | s : OddV m H (.str "")
  | tup {t : Addr} : H t = some (.tup [.int 0]) → OddV m H (.ref t)
  | lst {t : Addr} : H t = some (.lst [.int 0]) → OddV m H (.ref t)
  | dic {t : Addr} : H t = some (.dK []) → OddV m H (.ref t)
theorem OddV.of {m : Int} {H H' : Hp} {v : V} (h : OddV m H v) (s : ∀ b o, H b = some o → (o = .tup [.int 0] ∨ o = .lst [.int 0] ∨ o = .dK []) → H' b = some o) : OddV m H' v := by
  cases h with
  | neg => exact .neg
  | top => exact .top
  | big => exact .big
  | low => exact .low
  | non => exact .non
  | bl b => exact .bl b
  | s0 => exact .s0
  | s => exact .s
  | tup h => exact .tup (s _ _ h (.inl rfl))
  | lst h => exact .lst (s _ _ h (.inr (.inl rfl)))
  | dic h => exact .dic (s _ _ h (.inr (.inr rfl)))
theorem OddV.same {m : Int} {H H' : Hp} {v : V} (h : OddV m H v) (s : Same H H') : OddV m H' v := h.of fun b o e _ => s b o e
theorem OddV.ext {m : Int} {H H' : Hp} {v : V} (h : OddV m H v) (s : LamX.ExtN H H') : OddV m H' v := h.of fun b o e q => s b o e fun ps z => by
  rcases q with q | q | q <;> rw [q] at z <;> cases z
theorem OddV.extB {m : Int} {H H' : Hp} {p c : Addr} {n : Int} {v : V} (h : OddV m H v) (P : Pen H p c n) (s : ExtB p H H') : OddV m H' v := h.of fun b o e q => s b o (fun z => by
  obtain ⟨i, r, hp⟩ := P.obj
  rw [z, hp] at e
  cases e
  rcases q with q | q | q <;> cases q) e fun ps z => by
  rcases q with q | q | q <;> rw [q] at z <;> cases z
theorem OddV.bad {K : PySem.W.Frag} {m lo hi : Int} {H : Hp} {v : V} (h : OddV m H v) (l0 : 0 ≤ lo) (h1 : hi ≤ m + 1) (h2 : hi ≤ 1000) : BadI K lo hi H v := by
  cases h with
  | neg => exact .inr ⟨_, rfl, by omega⟩
  | top => exact .inr ⟨_, rfl, by omega⟩
  | big =>
    have q : (1000 : Int) ≤ 10 ^ Int.toNat 59 := by decide +kernel
    exact .inr ⟨_, rfl, fun z => by omega⟩
  | low =>
    have q : -(10 : Int) ^ Int.toNat 59 < 0 := by decide +kernel
    exact .inr ⟨_, rfl, fun z => by omega⟩
  | non => exact .inl .non
  | bl b => exact .inl .bl
  | s0 => exact .inl .str
  | s => exact .inl .str
  | tup h => exact .inl (.tup h)
  | lst h => exact .inl (.lst h)
  | dic h => exact .inl (.dict h)
def DataOf (K : PySem.W.Frag) (H : Hp) (v : V) : Prop := ∃ d : PyData, Sh d ∧ ∀ H', LamX.ExtN H H' → Dq K H' v d
theorem OddV.data {K : PySem.W.Frag} {m : Int} {H : Hp} {v : V} (h : OddV m H v) (m0 : 0 ≤ m) (m1 : m ≤ 900) : DataOf K H v := by
  cases h with
  | neg => exact ⟨_, Sh.int (by decide), fun _ _ => .int _⟩
  | top => exact ⟨_, Sh.int (by omega), fun _ _ => .int _⟩
  | big => exact ⟨_, Sh.big (by decide +kernel) (by decide +kernel) (by decide +kernel), fun _ _ => .int _⟩
  | low => exact ⟨_, Sh.big (by decide +kernel) (by decide +kernel) (by decide +kernel), fun _ _ => .int _⟩
  | non => exact ⟨.none, ⟨by decide +kernel, by decide +kernel, by decide +kernel, by decide +kernel⟩, fun _ _ => .non⟩
  | bl b => exact ⟨.bool b, by cases b <;> exact ⟨by decide +kernel, by decide +kernel, by decide +kernel, by decide +kernel⟩, fun _ _ => .bl _⟩
  | s0 => exact ⟨.str "0", ⟨by decide +kernel, by decide +kernel, by decide +kernel, by decide +kernel⟩, fun _ _ => .str _⟩
  | s => exact ⟨.str "", ⟨by decide +kernel, by decide +kernel, by decide +kernel, by decide +kernel⟩, fun _ _ => .str _⟩
  | tup h => exact ⟨.tuple [.int 0], ⟨by decide +kernel, by decide +kernel, by decide +kernel, by decide +kernel⟩, fun _ s => .tup (.inl (.inl (s _ _ h fun _ z => by cases z))) (.cons (.int 0) .nil)⟩
  | lst h => exact ⟨.list [.int 0], ⟨by decide +kernel, by decide +kernel, by decide +kernel, by decide +kernel⟩, fun _ s => .lst (SqL.of (s _ _ h fun _ z => by cases z)) (.cons (.int 0) .nil)⟩
  | dic h => exact ⟨.dict [], ⟨by decide +kernel, by decide +kernel, by decide +kernel, by decide +kernel⟩, fun _ s => .dic (s _ _ h fun _ z => by cases z) .nil⟩
theorem DataOf.int {K : PySem.W.Frag} {H : Hp} {i : Int} (h : i.natAbs ≤ 1000) : DataOf K H (.int i) := ⟨_, Sh.int h, fun _ _ => .int _⟩
theorem DataOf.non {K : PySem.W.Frag} {H : Hp} : DataOf K H .non := ⟨.none, ⟨by decide +kernel, by decide +kernel, by decide +kernel, by decide +kernel⟩, fun _ _ => .non⟩
theorem repr2 {K : PySem.W.Frag} {H' : Hp} {v : V} {t : Addr} {s : Str} {d : PyData} {Q : VK} (h : H' t = some (.tup [.str s, v])) (hs : Sh (.str s)) (hd : Sh d) (dq : Dq K H' v d) (k : Q (.str (PyData.tuple [.str s, d]).shown) H') : rReprQ K [.ref t] H' Q :=
  let ⟨d1, d2, d3⟩ := hs.tup2 hd
  ⟨_, _, rfl, .tup (.inl (.inl h)) (.cons (.str _) (.cons dq .nil)), d1, d2, d3, k⟩
theorem repr3 {K : PySem.W.Frag} {H' : Hp} {v u : V} {t : Addr} {s : Str} {d e : PyData} {Q : VK} (h : H' t = some (.tup [.str s, v, u])) (hs : Sh (.str s)) (hd : Sh d) (he : Sh e) (dq : Dq K H' v d) (eq : Dq K H' u e) (k : Q (.str (PyData.tuple [.str s, d, e]).shown) H') : rReprQ K [.ref t] H' Q :=
  let ⟨d1, d2, d3⟩ := hs.tup3 hd he
  ⟨_, _, rfl, .tup (.inl (.inl h)) (.cons (.str _) (.cons dq (.cons eq .nil))), d1, d2, d3, k⟩
theorem sh_colour : Sh (.str "colour") := ⟨by decide +kernel, by decide +kernel, by decide +kernel, by decide +kernel⟩
theorem sh_pixel : Sh (.str "pixel") := ⟨by decide +kernel, by decide +kernel, by decide +kernel, by decide +kernel⟩
theorem DataOf.ext {K : PySem.W.Frag} {H H' : Hp} {v : V} (h : DataOf K H v) (s : LamX.ExtN H H') : DataOf K H' v := h.imp fun _ ⟨a, b⟩ => ⟨a, fun H2 e => b H2 (s.trans e)⟩
theorem DataOf.same {K : PySem.W.Frag} {H H' : Hp} {v : V} (h : DataOf K H v) (s : Same H H') : DataOf K H' v := h.ext (LamX.ExtN.of s)
theorem BadI.ext {K : PySem.W.Frag} {lo hi : Int} {H H' : Hp} {v : V} (h : BadI K lo hi H v) (s : LamX.ExtN H H') : BadI K lo hi H' v := h.elim (fun h => .inl (h.extN s)) .inr
theorem BadPx.ext {K : PySem.W.Frag} {w h : Int} {H H' : Hp} {v u : V} (b : BadPx K w h H v u) (s : LamX.ExtN H H') : BadPx K w h H' v u := b.elim (fun b => .inl (b.ext s)) fun ⟨x, e, h0, h1, b⟩ => .inr ⟨x, e, h0, h1, b.ext s⟩
def spOdd : Sp := fun vs H Q _ => ∃ (p c : Addr) (m n : Int), vs = [.ref p, .int m] ∧ Pen H p c n ∧ n < 1000000 ∧ ∀ (v : V) (H' : Hp), OddV m H' v → SameBut p H H' → Pen H' p c (n + 1) → Q v H'
theorem BadC.same {K : PySem.W.Frag} {H H' : Hp} {v : V} (h : BadC K H v) (s : Same H H') : BadC K H' v := h.elim (fun h => .inl (h.same s)) .inr
section
variable {P : Program} {w : World} {K : PySem.W.Frag} {mg : Str → Option Value} {base : Heap} {a : Adr}
set_option maxHeartbeats 4000000
theorem ok_oddw (T : Txt K mg a) : FnR P w K mg base CX0 3 a._law_odd_whole spOdd := by
  have G__law_pick : FnR P w K mg base CX0 2 a._law_pick spPick := ok_pick T
  refine T.d__law_odd_whole.ok sc__law_odd_whole (fun _ _ _ _ _ _ us hl => match us, hl with | [_, _], _ => rfl) (fun vs H Q E h => by obtain ⟨p, c, m, n, rfl, _⟩ := h; rfl) (fun cdv A outer s H vs Q E hr h => ?_)
  obtain ⟨p, c, m, n, rfl, hP, hn, k⟩ := h
  refine ⟨_, (pss_one (ps_ret (pe_callR G__law_pick (hr.mono (by decide)) T.m__law_pick T.k__law_pick pass0 (pa_cons (pv 0) (pa_cons (pe_lst (pa_cons (pe_un un_neg pe_int) (pa_cons (pe_op op_add (pv 1) pe_int) (pa_cons (pe_op op_pow pe_int pe_int) (pa_cons (pe_un un_neg (pe_op op_pow pe_int pe_int)) (pa_cons pe_non (pa_cons pe_bl (pa_cons pe_bl (pa_cons pe_str (pa_cons (pe_tup (pa_cons pe_int pa_nil)) (pa_cons (pe_lst (pa_cons pe_int pa_nil)) (pa_cons pe_dnewK (pa_cons pe_str pa_nil))))))))))))) pa_nil))))), ?_⟩
  simp only [tSeq, tIfS, tTest, tB, tAnd, tOr, tNot, tAndV, tOrV, tNotV, tIf, tOp, tUn, tChain, rEq, rNe, rI0, rI, rU, tCallR, tCons, tNil, tC, tVar, tRet, tRetN, tTup_k, tLst_k, tCB, tNext, tAsg, gName, gTup, gCons, gNil, tDrop, tPar, tFld, ClX.tCVal, tPropR, rBin, rBinT, rNeOwn, rSetL_k, gSub, tMakeK_k, tMethR, rInO, tDNewK_k, tYes, wipe, tMakeR_k, tSMeth, tSMethK, rMulS, decide_true, tNever, sFld, rIsiT, and_false, rListOf, rTupOf, rLenSeq, rIxL, rIxT, rIxS, rCat_k, rRep_k, rSlL_k, rSlS, rNewStrs_k, rAppend_k, tBM, tBM0, tM0, tM1, tSl, tNoPart, tPart, tLc_k, tFor_k, iList, iTup, iEnumT, iRng1, iRng2, iRng2L, iStr, L2.start, List.map, List.length_cons, List.length_nil, List.cons_append, List.nil_append, List.getElem?_cons_succ, List.getElem?_cons_zero, Option.some.injEq, V.int.injEq, V.bl.injEq, V.str.injEq, V.ref.injEq, exists_eq_left', exists_eq_left, and_assoc, exists_and_left, exists_eq, exists_eq', true_and, and_true, List.set_cons_zero, List.set_cons_succ, List.set, decide_eq_true_eq, Bool.not_eq_true', if_true, if_false, rIx, cx_K, nox_K, List.replicate_succ, List.replicate_zero, Nat.reduceSub, Bool.true_eq_false, Bool.false_eq_true, Nat.reduceAdd, List.cons.injEq, reduceCtorEq, false_and, false_or, or_false, tAug, rSetO, rJoin, rInDT, rRepT1]
  refine ⟨⟨by decide, by decide, by decide⟩, ⟨by decide, by decide, by decide⟩, kNew.mk (by show 1 ≤ sizeLine; decide) fun ta H1 f1 => kNew.mk (by show 1 ≤ sizeLine; decide) fun la H2 f2 => kN.mk fun da H3 f3 => kNew.mk (by show 12 ≤ sizeLine; decide) fun ol H4 f4 => ?_⟩
  have s3 := (f1.same.trans f2.same).trans f3.same
  have P3 := hP.same s3
  have P4 := P3.same f4.same
  refine ⟨p, c, ol, _, _, rfl, P4, by omega, f4.at_, P3.ne_new f4.new, by show 0 < 12; decide, by show 12 < 1073741824; decide, fun v H5 hv s5 P5 => ?_⟩
  have o4 : OddV m H4 v := by
    simp only [List.mem_cons, List.not_mem_nil, or_false] at hv
    rcases hv with rfl | rfl | rfl | rfl | rfl | rfl | rfl | rfl | rfl | rfl | rfl | rfl
    · exact .neg
    · exact .top
    · exact .big
    · exact .low
    · exact .non
    · exact .bl _
    · exact .bl _
    · exact .s0
    · exact .tup (f4.get (f3.get (f2.get f1.at_)))
    · exact .lst (f4.get (f3.get f2.at_))
    · exact .dic (f4.get f3.at_)
    · exact .s
  exact k v H5 (o4.extB P4 (ExtB.but s5)) ((SameBut.of (s3.trans f4.same)).trans s5) P5
end
abbrev lamQ1 : Str := (Str.ofString "law" ++ Str.ofString ".<locals>.") ++ Str.ofString "<lambda>"
abbrev lamQ2 : Str := (Str.ofString "_law_sizes_right" ++ Str.ofString ".<locals>.") ++ Str.ofString "<lambda>"
abbrev lamQ3 : Str := (Str.ofString "_law_pixels_right" ++ Str.ofString ".<locals>.") ++ Str.ofString "<lambda>"
abbrev TLs (T1 T2 T3 : Addr) : List (Addr × Str) := [(T1, lamQ1), (T2, lamQ2), (T3, lamQ3)]
theorem in_TL1 (T1 T2 T3 : Addr) : (T1, lamQ1) ∈ TLs T1 T2 T3 := by simp [TLs]
theorem in_TL2 (T1 T2 T3 : Addr) : (T2, lamQ2) ∈ TLs T1 T2 T3 := by simp [TLs]
theorem in_TL3 (T1 T2 T3 : Addr) : (T3, lamQ3) ∈ TLs T1 T2 T3 := by simp [TLs]
theorem un_TL1 {T1 T2 T3 : Addr} (n : T1 ≠ T2) (n' : T1 ≠ T3) (n'' : T2 ≠ T3) (p : Addr × Str) (hp : p ∈ TLs T1 T2 T3) (e : p.1 = T1) : p.2 = lamQ1 := by
  simp only [TLs, List.mem_cons, List.not_mem_nil, or_false] at hp
  rcases hp with rfl | rfl | rfl
  · rfl
  · exact absurd e.symm n
  · exact absurd e.symm n'
theorem un_TL2 {T1 T2 T3 : Addr} (n : T1 ≠ T2) (n' : T1 ≠ T3) (n'' : T2 ≠ T3) (p : Addr × Str) (hp : p ∈ TLs T1 T2 T3) (e : p.1 = T2) : p.2 = lamQ2 := by
  simp only [TLs, List.mem_cons, List.not_mem_nil, or_false] at hp
  rcases hp with rfl | rfl | rfl
  · exact absurd e n
  · rfl
  · exact absurd e.symm n''
theorem un_TL3 {T1 T2 T3 : Addr} (n : T1 ≠ T2) (n' : T1 ≠ T3) (n'' : T2 ≠ T3) (p : Addr × Str) (hp : p ∈ TLs T1 T2 T3) (e : p.1 = T3) : p.2 = lamQ3 := by
  simp only [TLs, List.mem_cons, List.not_mem_nil, or_false] at hp
  rcases hp with rfl | rfl | rfl
  · exact absurd e n'
  · exact absurd e n''
  · rfl
/-- items of rows, as the law draws them: no object of them stands at an address of ex -/
inductive ItC (ex : List Addr) (H : Hp) : V → Prop
  | str {s : Str} : s.length ≤ 250 → (∀ c ∈ s.cps.toList, c < 128) → ItC ex H (.str s)
  | non : ItC ex H .non
  | int : ItC ex H (.int 5)
  | tr : ItC ex H (.bl true)
  | lst {t : Addr} {m : Nat} : t ∉ ex → m ≤ 10 → H t = some (.lst (List.replicate m (.str "0"))) → ItC ex H (.ref t)
  | tup {t : Addr} {m : Nat} : t ∉ ex → m ≤ 10 → H t = some (.tup (List.replicate m (.str "0"))) → ItC ex H (.ref t)
  | dic {t : Addr} : t ∉ ex → H t = some (.dK []) → ItC ex H (.ref t)
theorem ItC.of {ex : List Addr} {H H' : Hp} {v : V} (h : ItC ex H v) (s : ∀ b o, b ∉ ex → H b = some o → (∀ ps, o ≠ .tbl ps) → H' b = some o) : ItC ex H' v := by
  cases h with
  | str h1 h2 => exact .str h1 h2
  | non => exact .non
  | int => exact .int
  | tr => exact .tr
  | lst h1 h2 h3 => exact .lst h1 h2 (s _ _ h1 h3 fun _ z => by cases z)
  | tup h1 h2 h3 => exact .tup h1 h2 (s _ _ h1 h3 fun _ z => by cases z)
  | dic h1 h3 => exact .dic h1 (s _ _ h1 h3 fun _ z => by cases z)
theorem ItC.same {ex : List Addr} {H H' : Hp} {v : V} (h : ItC ex H v) (s : Same H H') : ItC ex H' v := h.of fun b o _ e _ => s b o e
theorem ItC.but {ex : List Addr} {H H' : Hp} {v : V} {p : Addr} (h : ItC ex H v) (s : SameBut p H H') (hp : p ∈ ex) : ItC ex H' v := h.of fun b o n e _ => s b o (fun z => n (z ▸ hp)) e
theorem ItC.put {ex : List Addr} {H H' : Hp} {v : V} {l : Addr} {o : HO} (h : ItC ex H v) (f : Put H H' l o) (hp : l ∈ ex) : ItC ex H' v := h.of fun b o n e _ => f.get (fun z => n (z ▸ hp)) e
theorem ItC.more {ex : List Addr} {H : Hp} {v : V} {l : Addr} {ex' : List Addr} (h : ItC ex H v) (hs : ∀ b, b ∈ ex' → b ∈ ex ∨ H b = none) : ItC ex' H v := by
  have nn : ∀ {t : Addr} {o : HO}, t ∉ ex → H t = some o → t ∉ ex' := fun n e z => by
    rcases hs _ z with q | q
    · exact n q
    · rw [q] at e; cases e
  cases h with
  | str h1 h2 => exact .str h1 h2
  | non => exact .non
  | int => exact .int
  | tr => exact .tr
  | lst h1 h2 h3 => exact .lst (nn h1 h3) h2 h3
  | tup h1 h2 h3 => exact .tup (nn h1 h3) h2 h3
  | dic h1 h3 => exact .dic (nn h1 h3) h3
theorem sh_rep (m : Nat) (h : m ≤ 10) : Sh (.list (List.replicate m (.str "0"))) ∧ Sh (.tuple (List.replicate m (.str "0"))) := by
  rcases (by omega : m = 0 ∨ m = 1 ∨ m = 2 ∨ m = 3 ∨ m = 4 ∨ m = 5 ∨ m = 6 ∨ m = 7 ∨ m = 8 ∨ m = 9 ∨ m = 10) with rfl | rfl | rfl | rfl | rfl | rfl | rfl | rfl | rfl | rfl | rfl <;>
    exact ⟨⟨by decide +kernel, by decide +kernel, by decide +kernel, by decide +kernel⟩, ⟨by decide +kernel, by decide +kernel, by decide +kernel, by decide +kernel⟩⟩
theorem dq_rep {K : PySem.W.Frag} {H : Hp} : ∀ m : Nat, DqAll K H (List.replicate m (.str "0")) (List.replicate m (.str "0"))
  | 0 => .nil
  | m + 1 => by rw [List.replicate_succ, List.replicate_succ]; exact .cons (.str _) (dq_rep m)
theorem Sh.strL {s : Str} (h1 : s.length ≤ 250) (h2 : ∀ c ∈ s.cps.toList, c < 128) : Sh (.str s) := by
  refine ⟨by simp [PyData.showable], by simp [PyData.depth], ?_, ?_⟩
  · simp only [PyData.leavesShort, List.all_eq_true, decide_eq_true_eq]
    intro c hc
    exact Nat.lt_of_lt_of_le (h2 c hc) (by decide)
  · simp only [PyData.weight]
    exact Nat.le_trans h1 (by decide)
theorem ItC.data {K : PySem.W.Frag} {ex : List Addr} {H : Hp} {v : V} (h : ItC ex H v) : DataOf K H v := by
  cases h with
  | str h1 h2 => exact ⟨_, Sh.strL h1 h2, fun _ _ => .str _⟩
  | non => exact DataOf.non
  | int => exact DataOf.int (by decide)
  | tr => exact ⟨.bool true, ⟨by decide +kernel, by decide +kernel, by decide +kernel, by decide +kernel⟩, fun _ _ => .bl _⟩
  | lst h1 h2 h3 => exact ⟨_, (sh_rep _ h2).1, fun _ s => .lst (SqL.of (s _ _ h3 fun _ z => by cases z)) (dq_rep _)⟩
  | tup h1 h2 h3 => exact ⟨_, (sh_rep _ h2).2, fun _ s => .tup (.inl (.inl (s _ _ h3 fun _ z => by cases z))) (dq_rep _)⟩
  | dic h1 h3 => exact ⟨.dict [], ⟨by decide +kernel, by decide +kernel, by decide +kernel, by decide +kernel⟩, fun _ s => .dic (s _ _ h3 fun _ z => by cases z) .nil⟩
theorem ItC.item {K : PySem.W.Frag} {ex : List Addr} {H : Hp} {v : V} (h : ItC ex H v) : ItemK K H v := by
  cases h with
  | str h1 h2 => exact .inl ⟨_, rfl, by omega⟩
  | non => exact .inr ⟨_, .base .non, kit_ty (by decide +kernel)⟩
  | int => exact .inr ⟨_, .base (.int _), kit_ty (by decide +kernel)⟩
  | tr => exact .inr ⟨_, .base (.bl _), kit_ty (by decide +kernel)⟩
  | lst h1 h2 h3 => exact .inr ⟨_, .base (.lst h3), kit_ty (by decide +kernel)⟩
  | tup h1 h2 h3 => exact .inr ⟨_, .base (.tup h3), kit_ty (by decide +kernel)⟩
  | dic h1 h3 => exact .inr ⟨_, .base (.dK h3), kit_ty (by decide +kernel)⟩
/-- texts' signs are low -/
def LowV (v : V) : Prop := ∀ s : Str, v = .str s → ∀ c ∈ s.cps.toList, c < 128
theorem ItC.low {ex : List Addr} {H : Hp} {v : V} (h : ItC ex H v) : LowV v := fun s e c hc => by
  subst e
  cases h with
  | str h1 h2 => exact h2 c hc
/-- what is handed -/
structure Hnd (K : PySem.W.Frag) (H : Hp) (v : V) : Prop where
  data : ∃ d : PyData, d.showable = true ∧ d.depth ≤ 8 ∧ d.shown.length ≤ sizeLine ∧ ∀ H', LamX.ExtN H H' → Dq K H' v d
  kind : NoSeq K H v ∨ ∃ (l : Addr) (xs : List V), v = .ref l ∧ Rows? H l xs ∧ xs.length ≤ 300 ∧ ∀ x ∈ xs, ItemK K H x ∧ LowV x
theorem NoSeq.ext {K : PySem.W.Frag} {H H' : Hp} {v : V} (h : NoSeq K H v) (s : LamX.ExtN H H') : NoSeq K H' v := h.imp fun _ q => ⟨TyX.extN q.1 s, q.2⟩
theorem ItemK.ext {K : PySem.W.Frag} {H H' : Hp} {v : V} (h : ItemK K H v) (s : LamX.ExtN H H') : ItemK K H' v := h.imp id fun h => h.imp fun _ q => ⟨TyX.extN q.1 s, q.2⟩
theorem Rows?.ext {H H' : Hp} {l : Addr} {xs : List V} (h : Rows? H l xs) (s : LamX.ExtN H H') : Rows? H' l xs := h.imp (fun h => s _ _ h fun _ z => by cases z) fun h => s _ _ h fun _ z => by cases z
theorem Hnd.ext {K : PySem.W.Frag} {H H' : Hp} {v : V} (h : Hnd K H v) (s : LamX.ExtN H H') : Hnd K H' v :=
  ⟨h.data.imp fun _ ⟨a, b, c, d⟩ => ⟨a, b, c, fun H2 e => d H2 (s.trans e)⟩, h.kind.imp (fun h => h.ext s) fun ⟨l, xs, a, b, c, d⟩ => ⟨l, xs, a, b.ext s, c, fun x hx => ⟨(d x hx).1.ext s, (d x hx).2⟩⟩⟩
theorem Hnd.same {K : PySem.W.Frag} {H H' : Hp} {v : V} (h : Hnd K H v) (s : Same H H') : Hnd K H' v := h.ext (LamX.ExtN.of s)
/-- rows of such items -/
theorem dq_items {K : PySem.W.Frag} {H : Hp} : ∀ xs : List V, (∀ x ∈ xs, DataOf K H x) → ∃ ds : List PyData, ds.length = xs.length ∧ (∀ d ∈ ds, Sh d) ∧ ∀ H', LamX.ExtN H H' → DqAll K H' xs ds
  | [], _ => ⟨[], rfl, fun d h => (by cases h), fun _ _ => .nil⟩
  | x :: xs, h => by
    obtain ⟨d, a1, a2⟩ := h x List.mem_cons_self
    obtain ⟨ds, b1, b2, b3⟩ := dq_items xs fun y hy => h y (List.mem_cons_of_mem _ hy)
    exact ⟨d :: ds, by rw [List.length_cons, b1, List.length_cons], fun e he => by
      rcases List.mem_cons.mp he with rfl | he
      · exact a1
      · exact b2 e he, fun H' s => .cons (a2 H' s) (b3 H' s)⟩
theorem sh_all : ∀ ds : List PyData, (∀ d ∈ ds, Sh d) → PyData.showableAll ds = true ∧ PyData.depthAll ds ≤ 3 ∧ PyData.leavesShortAll 62 ds = true ∧ PyData.weightAll ds ≤ 301 * ds.length
  | [], _ => by simp [PyData.showableAll, PyData.depthAll, PyData.leavesShortAll, PyData.weightAll]
  | d :: ds, h => by
    obtain ⟨a1, a2, a3, a4⟩ := h d List.mem_cons_self
    obtain ⟨b1, b2, b3, b4⟩ := sh_all ds fun e he => h e (List.mem_cons_of_mem _ he)
    refine ⟨?_, ?_, ?_, ?_⟩
    · simp only [PyData.showableAll, a1, b1]; rfl
    · simp only [PyData.depthAll]; omega
    · simp only [PyData.leavesShortAll, a3, b3]; rfl
    · simp only [PyData.weightAll, List.length_cons]; omega
theorem hnd_rows {K : PySem.W.Frag} {H : Hp} {l : Addr} {xs : List V} (hl : Rows? H l xs) (hn : xs.length ≤ 250) (hx : ∀ x ∈ xs, DataOf K H x ∧ ItemK K H x ∧ LowV x) : Hnd K H (.ref l) := by
  obtain ⟨ds, b1, b2, b3⟩ := dq_items xs fun x h => (hx x h).1
  obtain ⟨c1, c2, c3, c4⟩ := sh_all ds b2
  have size : ∀ d : PyData, d.leavesShort 62 = true → d.weight ≤ 301 * ds.length → d.shown.length ≤ sizeLine := fun d h1 h2 => by
    refine Nat.le_trans (PyData.shown_le 62 (by decide) _ h1) ?_
    exact Nat.le_trans (Nat.add_le_add_right (Nat.mul_le_mul_left 64 (show d.weight ≤ 76000 by omega)) 62) (by decide)
  refine ⟨?_, .inr ⟨l, xs, rfl, hl, by omega, fun x h => (hx x h).2⟩⟩
  rcases hl with h | h
  · exact ⟨.list ds, by simp only [PyData.showable]; exact c1, by simp only [PyData.depth]; omega, size _ (by simp only [PyData.leavesShort]; exact c3) (by simp only [PyData.weight]; exact c4), fun H' s => .lst (SqL.of (s _ _ h fun _ z => by cases z)) (b3 H' s)⟩
  · exact ⟨.tuple ds, by simp only [PyData.showable]; exact c1, by simp only [PyData.depth]; omega, size _ (by simp only [PyData.leavesShort]; exact c3) (by simp only [PyData.weight]; exact c4), fun H' s => .tup (.inl (.inl (s _ _ h fun _ z => by cases z))) (b3 H' s)⟩
theorem hnd_items {K : PySem.W.Frag} {ex : List Addr} {H : Hp} {l : Addr} {xs : List V} (hl : Rows? H l xs) (hn : xs.length ≤ 250) (hx : ∀ x ∈ xs, ItC ex H x) : Hnd K H (.ref l) := hnd_rows hl hn fun x h => ⟨(hx x h).data, (hx x h).item, (hx x h).low⟩
end Pf
end
section
namespace Pf
open PySem PySem.Spec PyProof.Rows L2 Ow StX
open SX (S)
def isDig (c : Nat) : Bool := decide (48 ≤ c) && decide (c ≤ 57)
theorem low_dig {c : Nat} (h : c < 128) : Unicode.isDigit c = isDig c := by
  have z : ∀ c : Fin 128, Unicode.isDigit c.val = isDig c.val := by decide +kernel
  exact z ⟨c, h⟩
theorem in_ten {c : Nat} : decide (c ∈ (Str.ofString "0123456789").cps.toList) = isDig c := by
  have e : (Str.ofString "0123456789").cps.toList = [48, 49, 50, 51, 52, 53, 54, 55, 56, 57] := by decide +kernel
  rw [e, Bool.eq_iff_iff]
  unfold isDig
  simp only [List.mem_cons, List.not_mem_nil, or_false, decide_eq_true_eq, Bool.and_eq_true]
  omega
/-- the law's own look at a row -/
theorem good_low {s : Str} (h : ∀ c ∈ s.cps.toList, c < 128) : goodS s = (decide (1 ≤ s.length) && decide (s.length ≤ 200) && s.cps.toList.all isDig) := by
  unfold goodS
  have e1 : Txt.isascii s = true := by
    show (s.cps.all fun c => decide (c < 128)) = true
    rw [← Array.all_toList]
    exact List.all_eq_true.mpr fun c hc => decide_eq_true (h c hc)
  have e2 : Txt.isdigit s = (decide (1 ≤ s.length) && s.cps.toList.all isDig) := by
    show (decide (s.length > 0) && s.cps.all fun c => Unicode.isDigit c) = _
    rw [← Array.all_toList]
    congr 1
    rw [Bool.eq_iff_iff, List.all_eq_true, List.all_eq_true]
    exact ⟨fun z c hc => by rw [← low_dig (h c hc)]; exact z c hc, fun z c hc => by rw [low_dig (h c hc)]; exact z c hc⟩
  rw [e1, e2, Bool.true_and, Bool.eq_iff_iff]
  simp only [Bool.and_eq_true, decide_eq_true_eq]
  constructor
  · rintro ⟨⟨a, b⟩, c⟩; exact ⟨⟨a, by omega⟩, b⟩
  · rintro ⟨⟨a, c⟩, b⟩; exact ⟨⟨a, b⟩, by omega⟩
theorem dp_signs {K : PySem.W.Frag} {H : Hp} : ∀ L : List Nat, DpAll K H (L.map fun c => V.str ⟨#[c]⟩) (L.map fun c => PyData.str ⟨#[c]⟩)
  | [] => .nil
  | c :: L => .cons (.str _) (dp_signs L)
theorem lay_signs : ∀ L : List Nat, (∀ c ∈ L, c < 128) → PyData.canLayAll0 (L.map fun c => PyData.str ⟨#[c]⟩) = true ∧ PyData.depthAll (L.map fun c => PyData.str ⟨#[c]⟩) = 0
  | [], _ => ⟨rfl, by simp [PyData.depthAll]⟩
  | c :: L, h => by
    obtain ⟨h1, h2⟩ := lay_signs L fun d hd => h d (List.mem_cons_of_mem _ hd)
    have hc := h c List.mem_cons_self
    have ok : PyData.strOk ⟨#[c]⟩ = true := by
      show (#[c].all fun c => decide (c < 0x110000)) = true
      rw [← Array.all_toList]
      simp
      omega
    refine ⟨by simp only [List.map_cons, PyData.canLayAll0, PyData.canLay0, h1, ok]; rfl, ?_⟩
    simp only [List.map_cons, PyData.depthAll, PyData.depth, h2]
    rfl
def spIsLine (K : PySem.W.Frag) : Sp := fun vs H Q _ => ∃ (v : V) (s0 : Str), vs = [v, .str s0] ∧ ItemK K H v ∧ LowV v ∧ s0.length ≤ 1000 ∧ ∀ H', Same H H' → Q (.bl (okV (.str s0) v)) H'
/-- what the law tells of what is handed -/
def dueX (xs : List V) : Option V := if 1 ≤ xs.length ∧ xs.length ≤ 200 then (wrongV xs).map fun k => .int (k : Nat) else some .non
def spDue (K : PySem.W.Frag) : Sp := fun vs H Q _ => ∃ v, vs = [v] ∧
  ((NoSeq K H v ∧ ∀ t H', Fresh H H' t (.tup [.str "picture", .non]) → Q (.ref t) H') ∨ ∃ (l : Addr) (xs : List V), v = .ref l ∧ Rows? H l xs ∧ xs.length ≤ 300 ∧ (∀ x ∈ xs, ItemK K H x ∧ LowV x) ∧
    ((dueX xs = none ∧ ∀ H', Same H H' → Q .non H') ∨ ∃ r, dueX xs = some r ∧ ∀ t H', Same H H' → H' t = some (.tup [.str "picture", r]) → Q (.ref t) H'))
section
variable {P : Program} {w : World} {K : PySem.W.Frag} {mg : Str → Option Value} {base : Heap} {a : Adr}
set_option maxHeartbeats 4000000
theorem ok_is_line (T : Txt K mg a) : FnR P w K mg base CX0 1 a._law_is_line (spIsLine K) := by
  refine T.d__law_is_line.ok sc__law_is_line (fun _ _ _ _ _ _ us hl => match us, hl with | [_, _], _ => rfl) (fun vs H Q E h => by obtain ⟨v, s0, rfl, _⟩ := h; rfl) (fun cdv A outer s H vs Q E hr h => ?_)
  obtain ⟨v, s0, rfl, hv, lv, h0, k⟩ := h
  refine ⟨_, (pss_cons (ps_if (PW.pt (pw_or (pt_not (pt_val (pe_callB call_isi (by rfl) T.n_isinstance (by decide +kernel) (pa_cons (pv 0) (pa_cons (pe_bltn (v := .ty "str") (by rfl) T.n_str (by decide +kernel) rfl) pa_nil))))) (pw_or (pt_not (pt_chain op_le op_le pe_int (pe_callB call_len_str (by rfl) T.n_len (by decide +kernel) (pa_cons (pv 0) pa_nil)) pe_int)) (pw_or1 (pt_cmpR op_ne (pe_callB call_len_str (by rfl) T.n_len (by decide +kernel) (pa_cons (pv 0) pa_nil)) (pe_callB call_len_str (by rfl) T.n_len (by decide +kernel) (pa_cons (pv 1) pa_nil)) (nomark _))))))
          (pss_one (ps_ret pe_bl))
          pss_nil)
      (pss_one (ps_ret (pe_cmpR (op_eqD hr.units) (pe_lc (own := [("_law_sign", 2)]) (g := gName 2) (by rfl) sc__law_is_line.nd (pi_str (pv 0)) (blkOk_by (own := [("_law_sign", 2)]) (N := ["_law_value", "_law_first", "_law_sign"]) (sc := defScope s__law_is_line) (by decide +kernel)) (fun _ _ _ _ _ => (pg_name (i := 2) sc__law_is_line.nd rfl (Or.inl rfl))) (fun _ _ _ _ _ => (pts_one (pt_cmpR op_notIn_sign (pv 2) pe_str (by rfl)))) (fun _ _ _ _ _ => (pv 2))) (pe_lst pa_nil) (nomark _))))), ?_⟩
  simp only [tSeq, tIfS, tTest, tB, tAnd, tOr, tNot, tAndV, tOrV, tNotV, tIf, tOp, tUn, tChain, rEq, rNe, rI0, rI, rU, tCallR, tCons, tNil, tC, tVar, tRet, tRetN, tTup_k, tLst_k, tCB, tNext, tAsg, gName, gTup, gCons, gNil, tDrop, tPar, tFld, ClX.tCVal, tPropR, rBin, rBinT, rNeOwn, rSetL_k, gSub, tMakeK_k, tMethR, rInO, tDNewK_k, tYes, wipe, tMakeR_k, tSMeth, tSMethK, rMulS, decide_true, tNever, sFld, rIsiT, and_false, rListOf, rTupOf, rLenSeq, rIxL, rIxT, rIxS, rCat_k, rRep_k, rSlL_k, rSlS, rNewStrs_k, rAppend_k, tBM, tBM0, tM0, tM1, tSl, tNoPart, tPart, tLc_k, tFor_k, iList, iTup, iEnumT, iRng1, iRng2, iRng2L, iStr, L2.start, List.map, List.length_cons, List.length_nil, List.cons_append, List.nil_append, List.getElem?_cons_succ, List.getElem?_cons_zero, Option.some.injEq, V.int.injEq, V.bl.injEq, V.str.injEq, V.ref.injEq, exists_eq_left', exists_eq_left, and_assoc, exists_and_left, exists_eq, exists_eq', true_and, and_true, List.set_cons_zero, List.set_cons_succ, List.set, decide_eq_true_eq, Bool.not_eq_true', if_true, if_false, rIx, cx_K, nox_K, List.replicate_succ, List.replicate_zero, Nat.reduceSub, Bool.true_eq_false, Bool.false_eq_true, Nat.reduceAdd, List.cons.injEq, reduceCtorEq, false_and, false_or, or_false, tAug, rSetO, rJoin, rInDT, rRepT1]
  rcases hv with ⟨z, rfl, hz⟩ | hn
  · have lz := lv z rfl
    have zs : z.cps.toList.length = z.length := rfl
    refine ⟨_, _, _, _, true, rfl, .ty _, .base (.str _), kit_self, _, rfl, ?_⟩
    rw [if_neg (by decide)]
    have ek : okV (.str s0) (.str z) = ((decide (1 ≤ z.length) && decide (z.length ≤ 200) && z.cps.toList.all isDig) && decide (z.length = s0.length)) := by
      rw [← good_low lz]
      rfl
    refine ⟨z, rfl, Nat.le_trans hz (by decide), ?_⟩
    by_cases h1 : 1 ≤ z.length
    · rw [if_pos (by omega)]
      by_cases h2 : z.length ≤ 200
      · rw [if_neg (by simp; omega)]
        refine ⟨z, rfl, Nat.le_trans hz (by decide), Nat.le_trans h0 (by decide), rfl, ?_⟩
        by_cases h3 : z.length = s0.length
        · rw [if_neg (by simp [h3])]
          refine ⟨z, rfl, ?_⟩
          refine kLc.all walk_str (fun i => ((z.cps.toList.take i).filter fun c => !isDig c).map fun c => V.str ⟨#[c]⟩) rfl (fun _ _ => trivial) (fun D i x HA HB hi cl hY => ?_) fun D HA fA => ?_
          · obtain ⟨rfl, c, hc, rfl⟩ := hY
            have hc' : z.cps.toList[i]? = some c := by rw [← hc]; exact Array.getElem?_toList
            simp only [in_ten, tSeq, tIfS, tTest, tB, tAnd, tOr, tNot, tAndV, tOrV, tNotV, tIf, tOp, tUn, tChain, rEq, rNe, rI0, rI, rU, tCallR, tCons, tNil, tC, tVar, tRet, tRetN, tTup_k, tLst_k, tCB, tNext, tAsg, gName, gTup, gCons, gNil, tDrop, tPar, tFld, ClX.tCVal, tPropR, rBin, rBinT, rNeOwn, rSetL_k, gSub, tMakeK_k, tMethR, rInO, tDNewK_k, tYes, wipe, tMakeR_k, tSMeth, tSMethK, rMulS, decide_true, tNever, sFld, rIsiT, and_false, rListOf, rTupOf, rLenSeq, rIxL, rIxT, rIxS, rCat_k, rRep_k, rSlL_k, rSlS, rNewStrs_k, rAppend_k, tBM, tBM0, tM0, tM1, tSl, tNoPart, tPart, tLc_k, tFor_k, iList, iTup, iEnumT, iRng1, iRng2, iRng2L, iStr, L2.start, List.map, List.length_cons, List.length_nil, List.cons_append, List.nil_append, List.getElem?_cons_succ, List.getElem?_cons_zero, Option.some.injEq, V.int.injEq, V.bl.injEq, V.str.injEq, V.ref.injEq, exists_eq_left', exists_eq_left, and_assoc, exists_and_left, exists_eq, exists_eq', true_and, and_true, List.set_cons_zero, List.set_cons_succ, List.set, decide_eq_true_eq, Bool.not_eq_true', if_true, if_false, rIx, cx_K, nox_K, List.replicate_succ, List.replicate_zero, Nat.reduceSub, Bool.true_eq_false, Bool.false_eq_true, Nat.reduceAdd, List.cons.injEq, reduceCtorEq, false_and, false_or, or_false, tAug, rSetO, rJoin, rInDT, rRepT1]
            have tk : z.cps.toList.take (i + 1) = z.cps.toList.take i ++ [c] := by rw [List.take_add_one, hc']; rfl
            refine ⟨_, rfl, ?_⟩
            rw [tk, List.filter_append, List.map_append]
            cases hd : isDig c with
            | true =>
              rw [if_neg (by decide)]
              have e2 : ([c] : List Nat).filter (fun c => !isDig c) = [] := by simp [hd]
              rw [e2, List.map_nil, List.append_nil]
              exact cl
            | false =>
              rw [if_pos (by decide)]
              have e2 : ([c] : List Nat).filter (fun c => !isDig c) = [c] := by simp [hd]
              rw [e2]
              refine kApp.mk cl (Same.refl _) ?_ rfl
              rw [List.length_map]
              exact Nat.lt_of_le_of_lt (Nat.le_trans (List.length_filter_le ..) (List.length_take_le ..)) (Nat.lt_of_le_of_lt (Nat.le_of_lt hi) (Nat.lt_of_le_of_lt (show z.cps.size ≤ 1000 from hz) (by decide)))
          · have full : z.cps.toList.take z.cps.size = z.cps.toList := List.take_of_length_le (Nat.le_refl _)
            rw [full] at fA
            refine kNew.mk (by show 0 ≤ sizeLine; decide) fun e0 HC fC => ?_
            obtain ⟨y1, y2⟩ := lay_signs (z.cps.toList.filter fun c => !isDig c) fun c hc => lz c (List.mem_filter.mp hc).1
            refine ⟨_, .list [], .lst (SqL.of (fC.get fA.at_)) (dp_signs _), .lst (SqL.of fC.at_) .nil, Bool.and_eq_true_iff.mpr ⟨y1, decide_eq_true (by simp only [PyData.depth]; omega)⟩, by decide +kernel, ?_⟩
            have q := k HC (fA.same.trans fC.same)
            rw [ek, decide_eq_true h1, decide_eq_true h2, decide_eq_true h3] at q
            have e : PyData.eqv (.list ((z.cps.toList.filter fun c => !isDig c).map fun c => PyData.str ⟨#[c]⟩)) (.list []) = z.cps.toList.all isDig := by
              cases hf : z.cps.toList.filter (fun c => !isDig c) with
              | nil =>
                rw [List.filter_eq_nil_iff] at hf
                rw [List.all_eq_true.mpr fun c hc => by have := hf c hc; simpa using this]
                simp [PyData.eqv, PyData.eqvAll]
              | cons c t =>
                have hm : c ∈ z.cps.toList.filter (fun c => !isDig c) := by rw [hf]; exact List.mem_cons_self
                have hm2 := List.mem_filter.mp hm
                have e3 : z.cps.toList.all isDig = false := Bool.eq_false_iff.mpr fun h => by
                  have q1 := List.all_eq_true.mp h c hm2.1
                  have q2 := hm2.2
                  rw [q1] at q2
                  cases q2
                rw [e3]
                simp [PyData.eqv, PyData.eqvAll]
            rw [e]
            simpa using q
        · rw [if_pos (decide_eq_false fun q => h3 (by omega))]
          have q := k H (Same.refl _)
          rw [ek, decide_eq_false h3, Bool.and_false] at q
          exact q
      · rw [if_pos (decide_eq_false fun q => h2 (by omega))]
        have q := k H (Same.refl _)
        rw [ek, decide_eq_false h2, Bool.and_false, Bool.false_and, Bool.false_and] at q
        exact q
    · rw [if_neg (by omega)]
      have q := k H (Same.refl _)
      rw [ek, decide_eq_false h1, Bool.false_and, Bool.false_and, Bool.false_and] at q
      exact q
  · obtain ⟨t, ht, hk⟩ := id hn
    refine ⟨_, _, _, _, false, rfl, .ty _, ht, hk, _, rfl, ?_⟩
    rw [if_pos rfl]
    have e := hn.ok (v0 := .str s0)
    have q := k H (Same.refl _)
    rw [e] at q
    exact q
theorem ok_due (T : Txt K mg a) : FnR P w K mg base CX0 2 a._law_due (spDue K) := by
  have G__law_is_line : FnR P w K mg base CX0 1 a._law_is_line (spIsLine K) := ok_is_line T
  refine T.d__law_due.ok sc__law_due (fun _ _ _ _ _ _ us hl => match us, hl with | [_], _ => rfl) (fun vs H Q E h => by obtain ⟨v, rfl, _⟩ := h; rfl) (fun cdv A outer s H vs Q E hr h => ?_)
  obtain ⟨v, rfl, h⟩ := h
  refine ⟨_, (pss_cons (ps_if (PW.pt (pw_or (pt_not (pt_val (pe_callB call_isiT (by rfl) T.n_isinstance (by decide +kernel) (pa_cons (pv 0) (pa_cons (pe_tup (pa_cons (pe_bltn (v := .ty "list") (by rfl) T.n_list (by decide +kernel) rfl) (pa_cons (pe_bltn (v := .ty "tuple") (by rfl) T.n_tuple (by decide +kernel) rfl) pa_nil))) pa_nil))))) (pw_or1 (pt_not (pt_chain op_le op_le pe_int (pe_callB call_len_seq (by rfl) T.n_len (by decide +kernel) (pa_cons (pv 0) pa_nil)) pe_int)))))
          (pss_one (ps_ret (pe_tup (pa_cons pe_str (pa_cons pe_non pa_nil)))))
          pss_nil)
      (pss_cons (ps_for PassesOwn.never rfl (pi_range1 rfl T.n_range (pa_cons (pe_callB call_len_seq (by rfl) T.n_len (by decide +kernel) (pa_cons (pv 0) pa_nil)) pa_nil)) (pg_name (i := 1) sc__law_due.nd rfl (Or.inl rfl))
          (pss_one (ps_if (PW.pt (pw_or (pt_not (pt_val (pe_callB call_isi (by rfl) T.n_isinstance (by decide +kernel) (pa_cons (pe_ix ix_seq (pv 0) pe_int (fun _ _ => rfl)) (pa_cons (pe_bltn (v := .ty "str") (by rfl) T.n_str (by decide +kernel) rfl) pa_nil))))) (pw_or1 (pt_not (pt_val (pe_callR G__law_is_line (hr.mono (by decide)) T.m__law_is_line T.k__law_is_line pass0 (pa_cons (pe_ix ix_seq (pv 0) (pv 1) (fun _ _ => rfl)) (pa_cons (pe_ix ix_seq (pv 0) pe_int (fun _ _ => rfl)) pa_nil))))))))
              (pss_one (ps_ret (pe_tup (pa_cons pe_str (pa_cons (pv 1) pa_nil)))))
              pss_nil)))
      (pss_one (ps_ret pe_non)))), ?_⟩
  simp only [tSeq, tIfS, tTest, tB, tAnd, tOr, tNot, tAndV, tOrV, tNotV, tIf, tOp, tUn, tChain, rEq, rNe, rI0, rI, rU, tCallR, tCons, tNil, tC, tVar, tRet, tRetN, tTup_k, tLst_k, tCB, tNext, tAsg, gName, gTup, gCons, gNil, tDrop, tPar, tFld, ClX.tCVal, tPropR, rBin, rBinT, rNeOwn, rSetL_k, gSub, tMakeK_k, tMethR, rInO, tDNewK_k, tYes, wipe, tMakeR_k, tSMeth, tSMethK, rMulS, decide_true, tNever, sFld, rIsiT, and_false, rListOf, rTupOf, rLenSeq, rIxL, rIxT, rIxS, rCat_k, rRep_k, rSlL_k, rSlS, rNewStrs_k, rAppend_k, tBM, tBM0, tM0, tM1, tSl, tNoPart, tPart, tLc_k, tFor_k, iList, iTup, iEnumT, iRng1, iRng2, iRng2L, iStr, L2.start, List.map, List.length_cons, List.length_nil, List.cons_append, List.nil_append, List.getElem?_cons_succ, List.getElem?_cons_zero, Option.some.injEq, V.int.injEq, V.bl.injEq, V.str.injEq, V.ref.injEq, exists_eq_left', exists_eq_left, and_assoc, exists_and_left, exists_eq, exists_eq', true_and, and_true, List.set_cons_zero, List.set_cons_succ, List.set, decide_eq_true_eq, Bool.not_eq_true', if_true, if_false, rIx, cx_K, nox_K, List.replicate_succ, List.replicate_zero, Nat.reduceSub, Bool.true_eq_false, Bool.false_eq_true, Nat.reduceAdd, List.cons.injEq, reduceCtorEq, false_and, false_or, or_false, tAug, rSetO, rJoin, rInDT, rRepT1]
  refine kNew.mk (by show 2 ≤ sizeLine; decide) fun tp H1 f1 => ?_
  simp only [tSeq, tIfS, tTest, tB, tAnd, tOr, tNot, tAndV, tOrV, tNotV, tIf, tOp, tUn, tChain, rEq, rNe, rI0, rI, rU, tCallR, tCons, tNil, tC, tVar, tRet, tRetN, tTup_k, tLst_k, tCB, tNext, tAsg, gName, gTup, gCons, gNil, tDrop, tPar, tFld, ClX.tCVal, tPropR, rBin, rBinT, rNeOwn, rSetL_k, gSub, tMakeK_k, tMethR, rInO, tDNewK_k, tYes, wipe, tMakeR_k, tSMeth, tSMethK, rMulS, decide_true, tNever, sFld, rIsiT, and_false, rListOf, rTupOf, rLenSeq, rIxL, rIxT, rIxS, rCat_k, rRep_k, rSlL_k, rSlS, rNewStrs_k, rAppend_k, tBM, tBM0, tM0, tM1, tSl, tNoPart, tPart, tLc_k, tFor_k, iList, iTup, iEnumT, iRng1, iRng2, iRng2L, iStr, L2.start, List.map, List.length_cons, List.length_nil, List.cons_append, List.nil_append, List.getElem?_cons_succ, List.getElem?_cons_zero, Option.some.injEq, V.int.injEq, V.bl.injEq, V.str.injEq, V.ref.injEq, exists_eq_left', exists_eq_left, and_assoc, exists_and_left, exists_eq, exists_eq', true_and, and_true, List.set_cons_zero, List.set_cons_succ, List.set, decide_eq_true_eq, Bool.not_eq_true', if_true, if_false, rIx, cx_K, nox_K, List.replicate_succ, List.replicate_zero, Nat.reduceSub, Bool.true_eq_false, Bool.false_eq_true, Nat.reduceAdd, List.cons.injEq, reduceCtorEq, false_and, false_or, or_false, tAug, rSetO, rJoin, rInDT, rRepT1]
  rcases h with ⟨⟨t, ht, hk⟩, k⟩ | ⟨l, xs, rfl, hl, hn, hx, h⟩
  · refine ⟨_, f1.at_, _, _, .cons (.ty _) (.cons (.ty _) .nil), TyX.same ht f1.same, false, hk, ?_⟩
    rw [if_pos rfl]
    exact kNew.mk (by show 2 ≤ sizeLine; decide) fun t2 H2 f2 => k t2 H2 ⟨f1.same.trans f2.same, f2.at_, none_back f1.same f2.new⟩
  · have hl1 := hl.same f1.same
    obtain ⟨tt, hty, hk⟩ : ∃ tt, TyX K H1 (.ref l) tt ∧ PySem.W.kitAny K tt [.type "list", .type "tuple"] = some true := by
      rcases hl1 with h | h
      · exact ⟨_, .base (.lst h), kitAny_cons kit_self (by intro z; cases z) (fun _ => rfl)⟩
      · exact ⟨_, .base (.tup h), kitAny_cons (b := false) (kit_ty (by decide +kernel)) (fun _ => kitAny_cons kit_self (by intro z; cases z) (fun _ => rfl)) (by intro z; cases z)⟩
    refine ⟨_, f1.at_, _, _, .cons (.ty _) (.cons (.ty _) .nil), hty, true, hk, ?_⟩
    rw [if_neg (by decide)]
    have sq : ∀ {H' : Hp}, Same H H' → SqL K H' l xs ∨ SqT K H' l xs := fun s => (hl.same s).imp SqL.of fun h => .inl (.inl h)
    have tell : ∀ {H' : Hp} {r : V}, Same H H' → dueX xs = some r → kNew .tup Q [.str "picture", r] H' := fun s e => by
      rcases h with ⟨h, _⟩ | ⟨r', h, k⟩
      · rw [h] at e; cases e
      · rw [h] at e
        cases e
        exact kNew.mk (by show 2 ≤ sizeLine; decide) fun t2 H2 f2 => k t2 H2 (s.trans f2.same) f2.at_
    refine ⟨l, rfl, _, sq f1.same, ?_⟩
    by_cases h1 : 1 ≤ xs.length
    · rw [if_pos (by omega)]
      by_cases h2 : xs.length ≤ 200
      · rw [if_neg (by simp; omega)]
        have ed : dueX xs = (wrongV xs).map fun k => .int (k : Nat) := if_pos ⟨h1, h2⟩
        refine ⟨l, rfl, _, sq f1.same, by omega, by omega, ?_⟩
        rw [Int.toNat_natCast]
        obtain ⟨v0, r0, exs⟩ : ∃ v0 r0, xs = v0 :: r0 := by
          cases xs with
          | nil => exact absurd h1 (by decide)
          | cons a b => exact ⟨_, _, rfl⟩
        have a0 : atI xs 0 = some v0 := by rw [exs]; exact atI_nat (j := 0) rfl
        have it0 := hx v0 (by rw [exs]; exact List.mem_cons_self)
        have wr : ∀ (i : Nat) (y : V), (∀ (j : Nat) (u : V), j < i → xs[j]? = some u → okV v0 u = true) → xs[i]? = some y → okV v0 y = false → dueX xs = some (.int (i : Nat)) := fun i y ok e hbad => by
          rw [ed]
          have z : wrongV xs = some i := by
            subst exs
            exact find_at (v0 :: r0) i y (fun j u hj hu => by
              show (!okV v0 u) = false
              rw [ok j u hj hu]
              rfl) e (by show (!okV v0 y) = true; rw [hbad]; rfl)
          rw [z]
          rfl
        refine kFor.it walk_range (fun i σ H' => Same H H' ∧ (∀ (j : Nat) (u : V), j < i → xs[j]? = some u → okV v0 u = true) ∧ ∃ x1, σ = [some (.ref l), x1]) ⟨f1.same, fun j u h => absurd h (Nat.not_lt_zero _), _, rfl⟩ (fun _ _ _ _ _ => trivial) (fun i xv σ H2 H3 hi hP hY => ?_) fun σ H2 hP => ?_
        · obtain ⟨s2, ok, x1, rfl⟩ := hP
          obtain ⟨rfl, rfl⟩ := hY
          obtain ⟨y, hy⟩ : ∃ y, xs[i]? = some y := ⟨_, List.getElem?_eq_getElem hi⟩
          have hyi := hx y (List.mem_of_getElem? hy)
          simp only [Int.zero_add, tSeq, tIfS, tTest, tB, tAnd, tOr, tNot, tAndV, tOrV, tNotV, tIf, tOp, tUn, tChain, rEq, rNe, rI0, rI, rU, tCallR, tCons, tNil, tC, tVar, tRet, tRetN, tTup_k, tLst_k, tCB, tNext, tAsg, gName, gTup, gCons, gNil, tDrop, tPar, tFld, ClX.tCVal, tPropR, rBin, rBinT, rNeOwn, rSetL_k, gSub, tMakeK_k, tMethR, rInO, tDNewK_k, tYes, wipe, tMakeR_k, tSMeth, tSMethK, rMulS, decide_true, tNever, sFld, rIsiT, and_false, rListOf, rTupOf, rLenSeq, rIxL, rIxT, rIxS, rCat_k, rRep_k, rSlL_k, rSlS, rNewStrs_k, rAppend_k, tBM, tBM0, tM0, tM1, tSl, tNoPart, tPart, tLc_k, tFor_k, iList, iTup, iEnumT, iRng1, iRng2, iRng2L, iStr, L2.start, List.map, List.length_cons, List.length_nil, List.cons_append, List.nil_append, List.getElem?_cons_succ, List.getElem?_cons_zero, Option.some.injEq, V.int.injEq, V.bl.injEq, V.str.injEq, V.ref.injEq, exists_eq_left', exists_eq_left, and_assoc, exists_and_left, exists_eq, exists_eq', true_and, and_true, List.set_cons_zero, List.set_cons_succ, List.set, decide_eq_true_eq, Bool.not_eq_true', if_true, if_false, rIx, cx_K, nox_K, List.replicate_succ, List.replicate_zero, Nat.reduceSub, Bool.true_eq_false, Bool.false_eq_true, Nat.reduceAdd, List.cons.injEq, reduceCtorEq, false_and, false_or, or_false, tAug, rSetO, rJoin, rInDT, rRepT1]
          have ix3 : ∀ {H' : Hp} {R : List V → Prop} {F : Prop}, Same H H' → R xs → (∃ x, SqL K H' l x ∧ R x) ∨ (∃ x, SqT K H' l x ∧ R x) ∨ F := fun s r => (sq s).elim (fun h => .inl ⟨_, h, r⟩) fun h => .inr (.inl ⟨_, h, r⟩)
          refine ix3 s2 ⟨v0, a0, ?_⟩
          rcases it0.1 with ⟨z0, rfl, hz0⟩ | hn0
          · refine ⟨_, _, _, _, true, rfl, .ty _, .base (.str _), kit_self, _, rfl, ?_⟩
            rw [if_neg (by decide)]
            refine ix3 s2 ⟨y, atI_nat hy, ix3 s2 ⟨.str z0, a0, y, z0, rfl, hyi.1.same s2, hyi.2, hz0, fun H4 s4 => ⟨_, rfl, ?_⟩⟩⟩
            cases hok : okV (.str z0) y with
            | false =>
              rw [if_pos rfl]
              exact tell (s2.trans s4) (wr i y ok hy hok)
            | true =>
              rw [if_neg (by decide)]
              refine ⟨s2.trans s4, fun j u hj hu => ?_⟩
              by_cases hji : j = i
              · subst hji
                rw [hy] at hu
                cases hu
                exact hok
              · exact ok j u (by omega) hu
          · obtain ⟨t, ht, hk'⟩ := hn0.same s2
            refine ⟨_, _, _, _, false, rfl, .ty _, ht, hk', _, rfl, ?_⟩
            rw [if_pos rfl]
            have i0 : i = 0 := by
              by_cases q : i = 0
              · exact q
              · have z := ok 0 v0 (by omega) (by rw [exs]; rfl)
                rw [hn0.ok] at z
                cases z
            subst i0
            have ey : y = v0 := by
              rw [exs] at hy
              cases hy
              rfl
            subst ey
            exact tell s2 (wr 0 y ok hy hn0.ok)
        · obtain ⟨s2, ok, x1, rfl⟩ := hP
          simp only [tSeq, tIfS, tTest, tB, tAnd, tOr, tNot, tAndV, tOrV, tNotV, tIf, tOp, tUn, tChain, rEq, rNe, rI0, rI, rU, tCallR, tCons, tNil, tC, tVar, tRet, tRetN, tTup_k, tLst_k, tCB, tNext, tAsg, gName, gTup, gCons, gNil, tDrop, tPar, tFld, ClX.tCVal, tPropR, rBin, rBinT, rNeOwn, rSetL_k, gSub, tMakeK_k, tMethR, rInO, tDNewK_k, tYes, wipe, tMakeR_k, tSMeth, tSMethK, rMulS, decide_true, tNever, sFld, rIsiT, and_false, rListOf, rTupOf, rLenSeq, rIxL, rIxT, rIxS, rCat_k, rRep_k, rSlL_k, rSlS, rNewStrs_k, rAppend_k, tBM, tBM0, tM0, tM1, tSl, tNoPart, tPart, tLc_k, tFor_k, iList, iTup, iEnumT, iRng1, iRng2, iRng2L, iStr, L2.start, List.map, List.length_cons, List.length_nil, List.cons_append, List.nil_append, List.getElem?_cons_succ, List.getElem?_cons_zero, Option.some.injEq, V.int.injEq, V.bl.injEq, V.str.injEq, V.ref.injEq, exists_eq_left', exists_eq_left, and_assoc, exists_and_left, exists_eq, exists_eq', true_and, and_true, List.set_cons_zero, List.set_cons_succ, List.set, decide_eq_true_eq, Bool.not_eq_true', if_true, if_false, rIx, cx_K, nox_K, List.replicate_succ, List.replicate_zero, Nat.reduceSub, Bool.true_eq_false, Bool.false_eq_true, Nat.reduceAdd, List.cons.injEq, reduceCtorEq, false_and, false_or, or_false, tAug, rSetO, rJoin, rInDT, rRepT1]
          have e : dueX xs = none := by
            rw [ed]
            have z : wrongV xs = none := by
              subst exs
              exact find_no fun j u hu => by
                show (!okV v0 u) = false
                rw [ok j u (List.getElem?_eq_some_iff.mp hu).1 hu]
                rfl
            rw [z]
            rfl
          rcases h with ⟨_, k⟩ | ⟨r', h, _⟩
          · exact k _ s2
          · rw [h] at e; cases e
      · rw [if_pos (decide_eq_false fun q => h2 (by omega))]
        exact tell f1.same (if_neg fun q => h2 q.2)
    · rw [if_neg (by omega)]
      exact tell f1.same (if_neg fun q => h1 q.1)
end
end Pf
end
section
namespace Pf
open PySem PySem.Spec PyProof.Rows L2 Ow StX
open SX (S)
theorem Pen.putP {H H' : Hp} {p c l : Addr} {n : Int} {o : HO} (P : Pen H p c n) (hp : l ≠ p) (hc : l ≠ c) (f : Put H H' l o) : Pen H' p c n := by
  obtain ⟨ns, b, r, h1, h2, h⟩ := P
  exact ⟨ns, b, r, f.get (Ne.symm hp) h1, f.get (Ne.symm hc) h2, h⟩
def spHanded (K : PySem.W.Frag) : Sp := fun vs H Q _ => ∃ (p c : Addr) (n : Int), vs = [.ref p] ∧ Pen H p c n ∧ n < 1000000 ∧ ∀ v H', Hnd K H' v → SameBut p H H' → Pen H' p c (n + 30) → Q v H'
theorem tDisp1 {s : Str} {v : V} {σ : List (Option V)} {H : Hp} {Q : VK} (k : ∀ d H', Fresh H H' d (.dK [(.inr s, v)]) → Q (.ref d) H') : tDisp [(tC (.str s), tC v)] σ H Q := fun d hd => by
  refine ⟨upd_same, [(.inr s, v)], rfl, by show 1 ≤ 15; decide, ?_⟩
  rw [upd_upd]
  exact k d _ (fresh_upd hd)
theorem noseq_non {K : PySem.W.Frag} {H : Hp} : NoSeq K H .non := ⟨_, .base .non, kitAny_cons (b := false) (kit_ty (by decide +kernel)) (fun _ => kitAny_cons (b := false) (kit_ty (by decide +kernel)) (fun _ => rfl) (by intro z; cases z)) (by intro z; cases z)⟩
theorem noseq_ty {K : PySem.W.Frag} {H : Hp} {v : V} {T : String} (h : TyX K H v (.type T)) (h1 : PySem.W.kitOne K (.type T) (.type "list") = some false) (h2 : PySem.W.kitOne K (.type T) (.type "tuple") = some false) : NoSeq K H v := ⟨_, h, kitAny_cons (b := false) h1 (fun _ => kitAny_cons (b := false) h2 (fun _ => rfl) (by intro z; cases z)) (by intro z; cases z)⟩
theorem DataOf.one {K : PySem.W.Frag} {H : Hp} {v : V} (h : DataOf K H v) : ∃ d : PyData, d.showable = true ∧ d.depth ≤ 8 ∧ d.shown.length ≤ sizeLine ∧ ∀ H', LamX.ExtN H H' → Dq K H' v d := by
  obtain ⟨d, ⟨a1, a2, a3, a4⟩, b⟩ := h
  refine ⟨d, a1, by omega, Nat.le_trans (PyData.shown_le 62 (by decide) _ a3) (Nat.le_trans (Nat.add_le_add_right (Nat.mul_le_mul_left 64 a4) 62) (by decide)), b⟩
theorem mul_any (d : Nat) {n : Int} (h : 0 ≤ n) : Txt.mul (S [d]) n = S (List.replicate n.toNat d) := by
  by_cases e : n = 0
  · subst e
    unfold Txt.mul
    rw [if_pos (by decide)]
    rfl
  · exact mul_one d (by omega)
theorem mulOk_any (d : Nat) {n : Int} (h : 0 ≤ n) (h2 : n ≤ 100000) : MulOk (S [d]) n := by
  by_cases e : n = 0
  · subst e
    exact ⟨by decide, fun z => absurd (by decide) z, fun z => absurd (by decide) z⟩
  · exact mulOk_one d (by omega) h2
theorem itS {ex : List Addr} {H : Hp} {n d : Nat} (h : n ≤ 249) (hd : d < 128) : ItC ex H (.str (S (List.replicate n d))) := .str (by rw [SX.S_len, List.length_replicate]; omega) fun c hc => by
  obtain ⟨_, rfl⟩ := List.mem_replicate.mp (show c ∈ List.replicate n d from hc)
  exact hd
theorem str_zero (m : Nat) (h : m ≤ 250) : ItC [] (fun _ => none) (.str (S (List.replicate m 48))) := .str (by rw [SX.S_len, List.length_replicate]; exact h) fun c hc => by
  obtain ⟨_, rfl⟩ := List.mem_replicate.mp (show c ∈ List.replicate m 48 from hc)
  decide
section
variable {P : Program} {w : World} {K : PySem.W.Frag} {mg : Str → Option Value} {base : Heap} {a : Adr}
set_option maxHeartbeats 4000000
theorem ok_handed (T : Txt K mg a) : FnR P w K mg base CX0 3 a._law_handed (spHanded K) := by
  have G__law_draw : FnR P w K mg base CX0 1 a._law_draw spPDraw := ok_pdraw T
  have G__law_pick : FnR P w K mg base CX0 2 a._law_pick spPick := ok_pick T
  refine T.d__law_handed.ok sc__law_handed (fun _ _ _ _ _ _ us hl => match us, hl with | [_], _ => rfl) (fun vs H Q E h => by obtain ⟨p, c, n, rfl, _⟩ := h; rfl) (fun cdv A outer s H vs Q E hr h => ?_)
  obtain ⟨p, c, n, rfl, hP, hn, k⟩ := h
  refine ⟨_, (pss_cons (ps_asg (pe_tup (pa_cons (pe_callR G__law_draw (hr.mono (by decide)) T.m__law_draw T.k__law_draw pass0 (pa_cons (pv 0) (pa_cons pe_int pa_nil))) (pa_cons (pe_op op_add pe_int (pe_callR G__law_draw (hr.mono (by decide)) T.m__law_draw T.k__law_draw pass0 (pa_cons (pv 0) (pa_cons pe_int pa_nil)))) pa_nil))) (pg_tup rfl (pgs_cons (pg_name (i := 1) sc__law_handed.nd rfl (Or.inl rfl)) (pgs_cons (pg_name (i := 2) sc__law_handed.nd rfl (Or.inr rfl)) pgs_nil))))
      (pss_cons (ps_if (pt_cmpR op_eq (pv 1) pe_int (nomark _))
          (pss_one (ps_ret (pe_callR G__law_pick (hr.mono (by decide)) T.m__law_pick T.k__law_pick pass0 (pa_cons (pv 0) (pa_cons (pe_lst (pa_cons pe_non (pa_cons pe_int (pa_cons pe_str (pa_cons (pe_disp (pps_cons pe_str pe_int pps_nil) (by rfl) (by rfl) (fun z => by cases z) (by decide)) (pa_cons pe_bl (pa_cons (pe_lst pa_nil) (pa_cons (pe_tup pa_nil) (pa_cons (pe_op op_rep (pe_lst (pa_cons pe_str pa_nil)) pe_int) (pa_cons (pe_op op_repTK (pe_tup (pa_cons pe_str pa_nil)) pe_int) (pa_cons (pe_op op_rep (pe_lst (pa_cons pe_str pa_nil)) pe_int) pa_nil))))))))))) pa_nil)))))
          pss_nil)
      (pss_cons (ps_if (pt_cmpR op_eq (pv 1) pe_int (nomark _))
          (pss_one (ps_ret (pe_callR G__law_pick (hr.mono (by decide)) T.m__law_pick T.k__law_pick pass0 (pa_cons (pv 0) (pa_cons (pe_lst (pa_cons (pe_lst (pa_cons (pe_op op_mulS pe_str pe_int) pa_nil)) (pa_cons (pe_lst (pa_cons (pe_op op_mulS pe_str pe_int) pa_nil)) (pa_cons (pe_lst (pa_cons pe_str (pa_cons (pe_op op_mulS pe_str pe_int) pa_nil))) (pa_cons (pe_lst (pa_cons (pe_op op_mulS pe_str pe_int) (pa_cons (pe_op op_mulS pe_str pe_int) (pa_cons (pe_op op_mulS pe_str pe_int) pa_nil)))) (pa_cons (pe_lst (pa_cons (pe_lst (pa_cons pe_str pa_nil)) pa_nil)) pa_nil)))))) pa_nil)))))
          pss_nil)
      (pss_cons (ps_setLc (i := 3) (own := [("_law_j", 6)]) (g := gName 6) (by rfl) sc__law_handed.nd rfl rfl (sw_true rfl rfl rfl (by decide +kernel)) (pi_range1 rfl T.n_range (pa_cons (pe_op op_add pe_int (pe_callR G__law_draw (hr.mono (by decide)) T.m__law_draw T.k__law_draw pass0 (pa_cons (pv 0) (pa_cons pe_int pa_nil)))) pa_nil)) (blkOk_by (own := [("_law_j", 6)]) (N := ["_law_pen_here", "_law_way", "_law_wide", "_law_lines", "_law_turn", "_law_odd", "_law_j"]) (sc := defScope s__law_handed) (by decide +kernel)) (fun _ _ _ _ _ => (pg_name (i := 6) sc__law_handed.nd rfl (Or.inl rfl))) (fun _ _ _ _ _ => pts_nil) (fun _ _ _ _ _ => (pe_op op_mulS (pe_callTy call_str_int (by rfl) T.n_str (by decide +kernel) (pa_cons (pe_callR G__law_draw (hr.mono (by decide)) T.m__law_draw T.k__law_draw pass0 (pa_cons (pv 0) (pa_cons pe_int pa_nil))) pa_nil)) (pv 2))))
      (pss_cons (ps_for PassesOwn.never rfl (pi_range1 rfl T.n_range (pa_cons (pe_callR G__law_draw (hr.mono (by decide)) T.m__law_draw T.k__law_draw pass0 (pa_cons (pv 0) (pa_cons pe_int pa_nil))) pa_nil)) (pg_name (i := 4) sc__law_handed.nd rfl (Or.inl rfl))
          (pss_cons (ps_set (i := 5) sc__law_handed.nd rfl (Or.inl rfl) (pe_lst (pa_cons pe_str (pa_cons (pe_op op_mulS pe_str (pe_op op_add (pv 2) pe_int)) (pa_cons (pe_op op_mulS pe_str (pe_op op_sub (pv 2) pe_int)) (pa_cons (pe_op op_mulS pe_str (pv 2)) (pa_cons (pe_op op_mulS pe_str (pv 2)) (pa_cons (pe_op op_mulS pe_str (pv 2)) (pa_cons pe_non (pa_cons pe_int (pa_cons (pe_op op_rep (pe_lst (pa_cons pe_str pa_nil)) (pv 2)) (pa_cons pe_bl pa_nil))))))))))))
          (pss_cons (ps_set (i := 5) sc__law_handed.nd rfl (Or.inl rfl) (pe_op op_cat (pv 5) (pe_lst (pa_cons (pe_op op_repTK (pe_tup (pa_cons pe_str pa_nil)) (pv 2)) (pa_cons pe_dnewK (pa_cons (pe_op op_add_str (pe_op op_mulS pe_str (pe_op op_sub (pv 2) pe_int)) pe_str) (pa_cons (pe_op op_add_str (pe_op op_mulS pe_str (pe_op op_sub (pv 2) pe_int)) pe_str) pa_nil)))))))
          (pss_one (ps_asg (pe_callR G__law_pick (hr.mono (by decide)) T.m__law_pick T.k__law_pick pass0 (pa_cons (pv 0) (pa_cons (pv 5) pa_nil))) (pg_sub (pv 3) (pe_callR G__law_draw (hr.mono (by decide)) T.m__law_draw T.k__law_draw pass0 (pa_cons (pv 0) (pa_cons (pe_callB call_len_seq (by rfl) T.n_len (by decide +kernel) (pa_cons (pv 3) pa_nil)) pa_nil))) set_list))))))
      (pss_one (ps_ret (pe_callR G__law_pick (hr.mono (by decide)) T.m__law_pick T.k__law_pick pass0 (pa_cons (pv 0) (pa_cons (pe_lst (pa_cons (pv 3) (pa_cons (pe_callTy call_tupleK (by rfl) T.n_tuple (by decide +kernel) (pa_cons (pv 3) pa_nil)) pa_nil))) pa_nil)))))))))), ?_⟩
  simp only [tSeq, tIfS, tTest, tB, tAnd, tOr, tNot, tAndV, tOrV, tNotV, tIf, tOp, tUn, tChain, rEq, rNe, rI0, rI, rU, tCallR, tCons, tNil, tC, tVar, tRet, tRetN, tTup_k, tLst_k, tCB, tNext, tAsg, gName, gTup, gCons, gNil, tDrop, tPar, tFld, ClX.tCVal, tPropR, rBin, rBinT, rNeOwn, rSetL_k, gSub, tMakeK_k, tMethR, rInO, tDNewK_k, tYes, wipe, tMakeR_k, tSMeth, tSMethK, rMulS, decide_true, tNever, sFld, rIsiT, and_false, rListOf, rTupOf, rLenSeq, rIxL, rIxT, rIxS, rCat_k, rRep_k, rSlL_k, rSlS, rNewStrs_k, rAppend_k, tBM, tBM0, tM0, tM1, tSl, tNoPart, tPart, tLc_k, tFor_k, iList, iTup, iEnumT, iRng1, iRng2, iRng2L, iStr, L2.start, List.map, List.length_cons, List.length_nil, List.cons_append, List.nil_append, List.getElem?_cons_succ, List.getElem?_cons_zero, Option.some.injEq, V.int.injEq, V.bl.injEq, V.str.injEq, V.ref.injEq, exists_eq_left', exists_eq_left, and_assoc, exists_and_left, exists_eq, exists_eq', true_and, and_true, List.set_cons_zero, List.set_cons_succ, List.set, decide_eq_true_eq, Bool.not_eq_true', if_true, if_false, rIx, cx_K, nox_K, List.replicate_succ, List.replicate_zero, Nat.reduceSub, Bool.true_eq_false, Bool.false_eq_true, Nat.reduceAdd, List.cons.injEq, reduceCtorEq, false_and, false_or, or_false, tAug, rSetO, rJoin, rInDT, rRepT1]
  refine ⟨p, c, 6, n, rfl, hP, by omega, by decide, by decide, fun zw H1 w0 w1 s1 P1 => ⟨p, c, 4, _, rfl, P1, by omega, by decide, by decide, fun zd H2 d0 d1 s2 P2 => ?_⟩⟩
  have s12 := s1.trans s2
  refine ⟨_, rfl, kNew.mk (by show 2 ≤ sizeLine; decide) fun tq H3 f3 => ⟨_, rfl, _, .inl (.inl f3.at_), rfl, _, _, rfl, _, _, rfl, rfl, rfl, ?_⟩⟩
  have P3 := P2.same f3.same
  have s13 := s12.trans (SameBut.of f3.same)
  clear P1 P2 s1 s2 s12
  by_cases h0 : V.int zw = V.int 0
  · rw [if_pos h0]
    refine tDisp1 fun d H4 f4 => kNew.mk (by show 0 ≤ sizeLine; decide) fun e1 H5 f5 => kNew.mk (by show 0 ≤ sizeLine; decide) fun e2 H6 f6 => kNew.mk (by show 1 ≤ sizeLine; decide) fun l3 H7 f7 => ⟨l3, rfl, _, f7.at_, by decide, by decide, by decide, kN.mk fun L1 H8 f8 => kNew.mk (by show 1 ≤ sizeLine; decide) fun t4 H9 f9 => ?_⟩
    refine ⟨t4, rfl, _, f9.at_, by simp, by decide, by decide, by decide, fun T1 H10 s10 T10 n10 => kNew.mk (by show 1 ≤ sizeLine; decide) fun l5 H11 f11 => ⟨l5, rfl, _, f11.at_, by decide, by decide, by decide, kN.mk fun L2 H12 f12 => kNew.mk (by show 10 ≤ sizeLine; decide) fun ol H13 f13 => ?_⟩⟩
    have P4 := P3.same f4.same
    have P5 := P4.same f5.same
    have P6 := P5.same f6.same
    have P7 := P6.same f7.same
    have P8 := P7.same f8.same
    have P9 := P8.same f9.same
    have P10 := P9.same s10
    have nT : T1 ≠ p := n10.elim (fun h => P9.ne_new h) fun h => h ▸ P8.ne_new f9.new
    have P11 := P10.same f11.same
    have P12 := P11.same f12.same
    have P13 := P12.same f13.same
    refine ⟨p, c, ol, _, _, rfl, P13, by omega, f13.at_, P12.ne_new f13.new, by show 0 < 10; decide, by show 10 < 1073741824; decide, fun v H14 hv s14 P14 => k v H14 ?_ (s13.trans ((SameBut.of (((((((((f4.same.trans f5.same).trans f6.same).trans f7.same).trans f8.same).trans f9.same).trans s10).trans f11.same).trans f12.same).trans f13.same)).trans s14)) (P14.le (by omega))⟩
    have z0 : ∀ (ex : List Addr) (H' : Hp), ItC ex H' (.str "0") := fun ex H' => .str (by decide) (by decide +kernel)
    have rep0 : ∀ {l : Addr} {n : Nat}, n ≤ 250 → Rows? H14 l (List.replicate n [V.str "0"]).flatten → Hnd K H14 (.ref l) := fun hn h => by
      rw [flat_one] at h
      exact hnd_items (ex := []) h (by rw [List.length_replicate]; exact hn) fun x hx => by
        obtain ⟨_, rfl⟩ := List.mem_replicate.mp hx
        exact z0 _ _
    have d14 := s14 _ _ (P3.ne_new f4.new) (f13.get (f12.get (f11.get (s10 _ _ (f9.get (f8.get (f7.get (f6.get (f5.get f4.at_)))))))))
    have e14 := s14 _ _ (P4.ne_new f5.new) (f13.get (f12.get (f11.get (s10 _ _ (f9.get (f8.get (f7.get (f6.get f5.at_))))))))
    have g14 := s14 _ _ (P5.ne_new f6.new) (f13.get (f12.get (f11.get (s10 _ _ (f9.get (f8.get (f7.get f6.at_)))))))
    have L14 := s14 _ _ (P7.ne_new f8.new) (f13.get (f12.get (f11.get (s10 _ _ (f9.get f8.at_)))))
    have T14 := s14 _ _ nT (f13.get (f12.get (f11.get T10)))
    have M14 := s14 _ _ (P11.ne_new f12.new) (f13.get f12.at_)
    simp only [List.mem_cons, List.not_mem_nil, or_false] at hv
    rcases hv with rfl | rfl | rfl | rfl | rfl | rfl | rfl | rfl | rfl | rfl
    · exact ⟨DataOf.non.one, .inl noseq_non⟩
    · exact ⟨(DataOf.int (by decide)).one, .inl (noseq_ty (.base (.int _)) (kit_ty (by decide +kernel)) (kit_ty (by decide +kernel)))⟩
    · exact ⟨DataOf.one ⟨.str "01", ⟨by decide +kernel, by decide +kernel, by decide +kernel, by decide +kernel⟩, fun _ _ => .str _⟩, .inl (noseq_ty (.base (.str _)) (kit_ty (by decide +kernel)) (kit_ty (by decide +kernel)))⟩
    · exact ⟨DataOf.one ⟨.dict [(.str "0", .int 1)], ⟨by decide +kernel, by decide +kernel, by decide +kernel, by decide +kernel⟩, fun _ s => .dic (s _ _ d14 fun _ z => by cases z) (.cons (.int 1) .nil)⟩, .inl (noseq_ty (.base (.dK d14)) (kit_ty (by decide +kernel)) (kit_ty (by decide +kernel)))⟩
    · exact ⟨DataOf.one ⟨.bool true, ⟨by decide +kernel, by decide +kernel, by decide +kernel, by decide +kernel⟩, fun _ _ => .bl _⟩, .inl (noseq_ty (.base (.bl _)) (kit_ty (by decide +kernel)) (kit_ty (by decide +kernel)))⟩
    · exact hnd_items (ex := []) (.inl e14) (by decide) fun x hx => by cases hx
    · exact hnd_items (ex := []) (.inr g14) (by decide) fun x hx => by cases hx
    · exact rep0 (by decide) (.inl L14)
    · exact rep0 (by decide) (.inr T14)
    · exact rep0 (by decide) (.inl M14)
  · rw [if_neg h0]
    refine ⟨rfl, ?_⟩
    by_cases h1 : V.int zw = V.int 1
    · rw [if_pos h1]
      have e0 : Str.ofString "0" = S [48] := by decide +kernel
      have e1 : Str.ofString "1" = S [49] := by decide +kernel
      rw [e0, e1]
      rw [mul_one 48 (show (1 : Int) ≤ 200 by decide), mul_one 49 (show (1 : Int) ≤ 200 by decide), mul_one 48 (show (1 : Int) ≤ 201 by decide), mul_one 48 (show (1 : Int) ≤ 199 by decide)]
      refine ⟨mulOk_one _ (by decide) (by decide), kNew.mk (by show 1 ≤ sizeLine; decide) fun a1 H4 f4 => ⟨mulOk_one _ (by decide) (by decide), kNew.mk (by show 1 ≤ sizeLine; decide) fun a2 H5 f5 => ⟨mulOk_one _ (by decide) (by decide), kNew.mk (by show 2 ≤ sizeLine; decide) fun a3 H6 f6 => ⟨mulOk_one _ (by decide) (by decide), mulOk_one _ (by decide) (by decide), mulOk_one _ (by decide) (by decide), kNew.mk (by show 3 ≤ sizeLine; decide) fun a4 H7 f7 => kNew.mk (by show 1 ≤ sizeLine; decide) fun a5 H8 f8 => kNew.mk (by show 1 ≤ sizeLine; decide) fun a6 H9 f9 => kNew.mk (by show 5 ≤ sizeLine; decide) fun ol H10 f10 => ?_⟩⟩⟩⟩
      have P4 := P3.same f4.same
      have P5 := P4.same f5.same
      have P6 := P5.same f6.same
      have P7 := P6.same f7.same
      have P8 := P7.same f8.same
      have P9 := P8.same f9.same
      have P10 := P9.same f10.same
      refine ⟨p, c, ol, _, _, rfl, P10, by omega, f10.at_, P9.ne_new f10.new, by show 0 < 5; decide, by show 5 < 1073741824; decide, fun v H14 hv s14 P14 => k v H14 ?_ (s13.trans ((SameBut.of ((((((f4.same.trans f5.same).trans f6.same).trans f7.same).trans f8.same).trans f9.same).trans f10.same)).trans s14)) (P14.le (by omega))⟩
      have z0 : ∀ (ex : List Addr) (H' : Hp), ItC ex H' (.str (S [48])) := fun ex H' => .str (by decide) (by decide +kernel)
      have b1 := s14 _ _ (P3.ne_new f4.new) (f10.get (f9.get (f8.get (f7.get (f6.get (f5.get f4.at_))))))
      have b2 := s14 _ _ (P4.ne_new f5.new) (f10.get (f9.get (f8.get (f7.get (f6.get f5.at_)))))
      have b3 := s14 _ _ (P5.ne_new f6.new) (f10.get (f9.get (f8.get (f7.get f6.at_))))
      have b4 := s14 _ _ (P6.ne_new f7.new) (f10.get (f9.get (f8.get f7.at_)))
      have b5 := s14 _ _ (P7.ne_new f8.new) (f10.get (f9.get f8.at_))
      have b6 := s14 _ _ (P8.ne_new f9.new) (f10.get f9.at_)
      rw [← e0] at b5
      simp only [List.mem_cons, List.not_mem_nil, or_false] at hv
      rcases hv with rfl | rfl | rfl | rfl | rfl
      · exact hnd_items (ex := []) (.inl b1) (by decide) fun x hx => by
          simp only [List.mem_cons, List.not_mem_nil, or_false] at hx
          subst hx
          exact itS (by decide) (by decide)
      · exact hnd_items (ex := []) (.inl b2) (by decide) fun x hx => by
          simp only [List.mem_cons, List.not_mem_nil, or_false] at hx
          subst hx
          exact itS (by decide) (by decide)
      · exact hnd_items (ex := []) (.inl b3) (by decide) fun x hx => by
          simp only [List.mem_cons, List.not_mem_nil, or_false] at hx
          rcases hx with rfl | rfl
          · exact z0 _ _
          · exact itS (by decide) (by decide)
      · exact hnd_items (ex := []) (.inl b4) (by decide) fun x hx => by
          simp only [List.mem_cons, List.not_mem_nil, or_false] at hx
          rcases hx with rfl | rfl | rfl <;> exact itS (by decide) (by decide)
      · exact hnd_items (ex := []) (.inl b6) (by show 1 ≤ 250; decide) fun x hx => by
          simp only [List.mem_cons, List.not_mem_nil, or_false] at hx
          subst hx
          exact .lst (m := 1) (by simp) (by decide) b5
    · rw [if_neg h1]
      refine ⟨p, c, 5, _, rfl, P3, by omega, by decide, by decide, fun zl H4 l0 l1 s4 P4 => ⟨_, rfl, by omega, by omega, ?_⟩⟩
      have s14 := s13.trans s4
      obtain ⟨m, hm⟩ : ∃ m : Nat, (1 + zl).toNat = m ∧ 1 ≤ m ∧ m ≤ 5 := ⟨_, rfl, by omega, by omega⟩
      obtain ⟨wn, hw⟩ : ∃ wn : Nat, 1 + zd = (wn : Int) ∧ 1 ≤ wn ∧ wn ≤ 4 := ⟨(1 + zd).toNat, by omega, by omega, by omega⟩
      obtain ⟨hw, hw1, hw2⟩ := hw
      obtain ⟨hm, hm1, hm2⟩ := hm
      rw [hm, hw]
      refine kLc.it walk_range (fun D j H' => Pen H' p c (n + 3 + (j : Nat)) ∧ SameBut p H H' ∧ H D = none ∧ D ≠ p ∧ ∃ xs, H' D = some (.lst xs) ∧ xs.length = j ∧ ∀ x ∈ xs, ∃ s : Str, x = .str s ∧ s.length ≤ 250 ∧ ∀ c ∈ s.cps.toList, c < 128)
        (fun D H' f => ⟨(P4.same f.same).le (by omega), s14.trans (SameBut.of f.same), ?_, P4.ne_new f.new, [], f.at_, rfl, fun x hx => by cases hx⟩) (fun _ _ _ _ => trivial) (fun D j xv H7 H8 hj hI hY => ?_) fun D H7 hI => ?_
      · have q := P4.ne_new f.new
        cases e : H D with
        | none => rfl
        | some o =>
          have z := s14 _ _ q e
          rw [f.new] at z
          cases z
      · obtain ⟨P7, s7, nD, Dp, xs, hxs, hlen, hx⟩ := hI
        obtain ⟨rfl, rfl⟩ := hY
        simp only [tSeq, tIfS, tTest, tB, tAnd, tOr, tNot, tAndV, tOrV, tNotV, tIf, tOp, tUn, tChain, rEq, rNe, rI0, rI, rU, tCallR, tCons, tNil, tC, tVar, tRet, tRetN, tTup_k, tLst_k, tCB, tNext, tAsg, gName, gTup, gCons, gNil, tDrop, tPar, tFld, ClX.tCVal, tPropR, rBin, rBinT, rNeOwn, rSetL_k, gSub, tMakeK_k, tMethR, rInO, tDNewK_k, tYes, wipe, tMakeR_k, tSMeth, tSMethK, rMulS, decide_true, tNever, sFld, rIsiT, and_false, rListOf, rTupOf, rLenSeq, rIxL, rIxT, rIxS, rCat_k, rRep_k, rSlL_k, rSlS, rNewStrs_k, rAppend_k, tBM, tBM0, tM0, tM1, tSl, tNoPart, tPart, tLc_k, tFor_k, iList, iTup, iEnumT, iRng1, iRng2, iRng2L, iStr, L2.start, List.map, List.length_cons, List.length_nil, List.cons_append, List.nil_append, List.getElem?_cons_succ, List.getElem?_cons_zero, Option.some.injEq, V.int.injEq, V.bl.injEq, V.str.injEq, V.ref.injEq, exists_eq_left', exists_eq_left, and_assoc, exists_and_left, exists_eq, exists_eq', true_and, and_true, List.set_cons_zero, List.set_cons_succ, List.set, decide_eq_true_eq, Bool.not_eq_true', if_true, if_false, rIx, cx_K, nox_K, List.replicate_succ, List.replicate_zero, Nat.reduceSub, Bool.true_eq_false, Bool.false_eq_true, Nat.reduceAdd, List.cons.injEq, reduceCtorEq, false_and, false_or, or_false, tAug, rSetO, rJoin, rInDT, rRepT1]
        refine ⟨p, c, 10, _, rfl, P7, by omega, by decide, by decide, fun d H9 d0 d1' s9 P9 => ⟨_, rfl, ?_⟩⟩
        obtain ⟨e1, e2⟩ := dig_S d0 d1'
        rw [e1, mul_any _ (by omega)]
        refine ⟨e2, mulOk_any _ (by omega) (by omega), _, s9 _ _ Dp hxs, by rw [hlen]; exact Nat.lt_of_lt_of_le (show j < 201 by omega) (by decide), ?_, fun b o nb e => ?_, nD, Dp, _, upd_same, by rw [List.length_append, hlen]; rfl, fun x hx' => ?_⟩
        · have f := (kPut.mk (l := D) (o := HO.lst (xs ++ [V.str (S (List.replicate (wn : Int).toNat (48 + d.toNat)))])) (H := H9) (Q := fun _ H' => Put H9 H' D (HO.lst (xs ++ [V.str (S (List.replicate (wn : Int).toNat (48 + d.toNat)))]))) fun H' f => f)
          have cD : D ≠ c := fun e => by
            obtain ⟨_, _, _, _, h2, _⟩ := hP
            rw [← e, nD] at h2
            cases h2
          exact (P9.putP Dp cD f).le (by push_cast; omega)
        · rw [upd_ne (ne_of_none e nD)]
          exact s9 _ _ nb (s7 _ _ nb e)
        · rcases List.mem_append.mp hx' with h | h
          · exact hx x h
          · refine ⟨_, List.mem_singleton.mp h, by rw [SX.S_len, List.length_replicate]; omega, fun c hc => ?_⟩
            obtain ⟨_, rfl⟩ := List.mem_replicate.mp (show c ∈ List.replicate _ _ from hc)
            omega
      · obtain ⟨P7, s7, nD, Dp, xs, hxs, hlen, hx⟩ := hI
        refine ⟨p, c, 3, _, rfl, P7, by omega, by decide, by decide, fun zt H8 t0 t1 s8 P8 => ⟨_, rfl, by omega, by omega, ?_⟩⟩
        have hD8 := s8 _ _ Dp hxs
        have s78 := s7.trans s8
        refine kFor.it walk_range (fun i σ H' => Pen H' p c (n + 4 + m + (i : Nat) * 3) ∧ SameBut p H H' ∧ (∃ xs, H' D = some (.lst xs) ∧ xs.length = m ∧ ∀ x ∈ xs, ItC [p, D] H' x) ∧ ∃ v4 v5 v6, σ = [some (.ref p), some (.int zw), some (.int (wn : Nat)), some (.ref D), v4, v5, v6])
          ⟨P8.le (by omega), s78, ⟨xs, hD8, hlen, fun x hx' => by obtain ⟨s, rfl, a, b⟩ := hx x hx'; exact .str a b⟩, _, _, _, rfl⟩ (fun _ _ _ _ _ => trivial) (fun i xv σ HA HB hi hP' hY => ?_) fun σ HA hP' => ?_
        · obtain ⟨PA, sA, ⟨ys, hys, hyl, hit⟩, v4, v5, v6, rfl⟩ := hP'
          obtain ⟨rfl, rfl⟩ := hY
          have hi : i < 3 := by omega
          have e0 : Str.ofString "0" = S [48] := by decide +kernel
          have e1 : Str.ofString "a" = S [97] := by decide +kernel
          have e2 : Str.ofString " " = S [32] := by decide +kernel
          have e3 : Str.ofString "-" = S [45] := by decide +kernel
          simp only [tSeq, tIfS, tTest, tB, tAnd, tOr, tNot, tAndV, tOrV, tNotV, tIf, tOp, tUn, tChain, rEq, rNe, rI0, rI, rU, tCallR, tCons, tNil, tC, tVar, tRet, tRetN, tTup_k, tLst_k, tCB, tNext, tAsg, gName, gTup, gCons, gNil, tDrop, tPar, tFld, ClX.tCVal, tPropR, rBin, rBinT, rNeOwn, rSetL_k, gSub, tMakeK_k, tMethR, rInO, tDNewK_k, tYes, wipe, tMakeR_k, tSMeth, tSMethK, rMulS, decide_true, tNever, sFld, rIsiT, and_false, rListOf, rTupOf, rLenSeq, rIxL, rIxT, rIxS, rCat_k, rRep_k, rSlL_k, rSlS, rNewStrs_k, rAppend_k, tBM, tBM0, tM0, tM1, tSl, tNoPart, tPart, tLc_k, tFor_k, iList, iTup, iEnumT, iRng1, iRng2, iRng2L, iStr, L2.start, List.map, List.length_cons, List.length_nil, List.cons_append, List.nil_append, List.getElem?_cons_succ, List.getElem?_cons_zero, Option.some.injEq, V.int.injEq, V.bl.injEq, V.str.injEq, V.ref.injEq, exists_eq_left', exists_eq_left, and_assoc, exists_and_left, exists_eq, exists_eq', true_and, and_true, List.set_cons_zero, List.set_cons_succ, List.set, decide_eq_true_eq, Bool.not_eq_true', if_true, if_false, rIx, cx_K, nox_K, List.replicate_succ, List.replicate_zero, Nat.reduceSub, Bool.true_eq_false, Bool.false_eq_true, Nat.reduceAdd, List.cons.injEq, reduceCtorEq, false_and, false_or, or_false, tAug, rSetO, rJoin, rInDT, rRepT1]
          rw [e0, e1, e2, e3]
          rw [mul_any 48 (show (0 : Int) ≤ (wn : Int) + 1 by omega), mul_any 48 (show (0 : Int) ≤ (wn : Int) - 1 by omega), mul_any 97 (show (0 : Int) ≤ (wn : Int) by omega), mul_any 32 (show (0 : Int) ≤ (wn : Int) by omega), mul_any 45 (show (0 : Int) ≤ (wn : Int) by omega)]
          refine ⟨mulOk_any _ (by omega) (by omega), mulOk_any _ (by omega) (by omega), mulOk_any _ (by omega) (by omega), mulOk_any _ (by omega) (by omega), mulOk_any _ (by omega) (by omega), kNew.mk (by show 1 ≤ sizeLine; decide) fun l1 HB f1 => ⟨l1, rfl, _, f1.at_, by omega, by omega, by show 1 * (wn : Int).toNat ≤ sizeLine; exact size200 (by omega), kN.mk fun L1 HC fC => kNew.mk (by show 10 ≤ sizeLine; decide) fun od HD fD => kNew.mk (by show 1 ≤ sizeLine; decide) fun t1' HE fE => ⟨t1', rfl, _, fE.at_, by simp, by omega, by omega, by show 1 ≤ 1000; decide, fun tt HF sF ttF ntF => kN.mk fun dd HG fG => ⟨mulOk_any _ (by omega) (by omega), ?_, mulOk_any _ (by omega) (by omega), ?_, kNew.mk (by show 4 ≤ sizeLine; decide) fun o2 HH fH => ?_⟩⟩⟩⟩
          · rw [SX.S_len, List.length_replicate]
            exact size200 (show _ + 1 ≤ 200 by omega)
          · rw [SX.S_len, List.length_replicate]
            exact size200 (show _ + 1 ≤ 200 by omega)
          have PB := PA.same f1.same
          have PC := PB.same fC.same
          have PD := PC.same fD.same
          have PE := PD.same fE.same
          have PF := PE.same sF
          have PG := PF.same fG.same
          have PH := PG.same fH.same
          have odH := fH.get (fG.get (sF _ _ (fE.get fD.at_)))
          refine ⟨od, rfl, o2, rfl, _, odH, _, fH.at_, by show 14 ≤ sizeLine; decide, kN.mk fun ol HI fI => ?_⟩
          have PI := PH.same fI.same
          have sAI := ((((((f1.same.trans fC.same).trans fD.same).trans fE.same).trans sF).trans fG.same).trans fH.same).trans fI.same
          refine ⟨p, c, ol, _, _, rfl, PI, by omega, fI.at_, PH.ne_new fI.new, by show 0 < 14; decide, by show 14 < 1073741824; decide, fun v HJ hv sJ PJ => ?_⟩
          have ex : ∀ {b : Addr}, b ≠ p → b ≠ D → b ∉ [p, D] := fun h1 h2 z => by
            simp only [List.mem_cons, List.not_mem_nil, or_false] at z
            exact z.elim h1 h2
          have nl : Str.ofString "\n" = S [10] := by decide +kernel
          have dt : Str.ofString "." = S [46] := by decide +kernel
          have bits : ∀ {d : Nat}, d < 128 → ItC [p, D] HI (.str (S (List.replicate ((wn : Int) - 1).toNat 48) ++ S [d])) := fun hd => by
            rw [SX.S_cat]
            refine .str (by rw [SX.S_len, List.length_append, List.length_replicate]; show _ + 1 ≤ 250; omega) fun c hc => ?_
            rcases List.mem_append.mp (show c ∈ List.replicate _ 48 ++ [_] from hc) with h | h
            · obtain ⟨_, rfl⟩ := List.mem_replicate.mp h
              decide
            · rw [List.mem_singleton.mp h]
              exact hd
          have itI : ItC [p, D] HI v := by
            rw [nl, dt] at hv
            simp only [List.mem_append, List.mem_cons, List.not_mem_nil, or_false] at hv
            rcases hv with (rfl | rfl | rfl | rfl | rfl | rfl | rfl | rfl | rfl | rfl) | (rfl | rfl | rfl | rfl)
            · exact .str (by decide) (by decide +kernel)
            · exact itS (by omega) (by decide)
            · exact itS (by omega) (by decide)
            · exact itS (by omega) (by decide)
            · exact itS (by omega) (by decide)
            · exact itS (by omega) (by decide)
            · exact .non
            · exact .int
            · have q := fI.get (fH.get (fG.get (sF _ _ (fE.get (fD.get fC.at_)))))
              rw [flat_one, ← e0] at q
              exact .lst (ex (PB.ne_new fC.new) (Ne.symm (fC.ne (f1.get hys)))) (show (wn : Int).toNat ≤ 10 by omega) q
            · exact .tr
            · have q := fI.get (fH.get (fG.get ttF))
              rw [flat_one, ← e0] at q
              refine .tup (ex ?_ ?_) (show (wn : Int).toNat ≤ 10 by omega) q
              · exact ntF.elim (fun h => PE.ne_new h) fun h => h ▸ PD.ne_new fE.new
              · have hE := fE.get (fD.get (fC.get (f1.get hys)))
                exact ntF.elim (fun h => Ne.symm (ne_of_none hE h)) fun h => h ▸ Ne.symm (fE.ne (fD.get (fC.get (f1.get hys))))
            · exact .dic (ex (PF.ne_new fG.new) (Ne.symm (fG.ne (sF _ _ (fE.get (fD.get (fC.get (f1.get hys)))))))) (fI.get (fH.get fG.at_))
            · exact bits (by decide)
            · exact bits (by decide)
          have itJ := itI.but sJ (by simp)
          have hysJ := sJ _ _ Dp (sAI _ _ hys)
          refine ⟨_, .inl (SqL.of hysJ), p, c, _, _, rfl, PJ, by omega, by omega, by omega, fun z HK z0 z1 sK PK => ?_⟩
          have hysK := sK _ _ Dp hysJ
          have itK := itJ.but sK (by simp)
          refine ⟨_, z, rfl, hysK, z.toNat, ?_, kPutS.mk fun HL fL => ?_⟩
          · unfold ixN
            rw [if_pos (by omega), if_pos (by omega)]
          have cD : D ≠ c := fun e => by
            obtain ⟨_, _, _, _, h2, _⟩ := hP
            rw [← e, nD] at h2
            cases h2
          have sAK := ((SameBut.of sAI).trans sJ).trans sK
          refine ⟨(PK.putP Dp cD fL).le (by push_cast; omega), fun b o nb e => fL.get (ne_of_none e nD) (sAK _ _ nb (sA _ _ nb e)), _, fL.at_, by rw [List.length_set, hyl], fun x hx' => ?_⟩
          rcases List.mem_or_eq_of_mem_set hx' with h | h
          · exact ((((hit x h).same sAI).but sJ (by simp)).but sK (by simp)).put fL (by simp)
          · rw [h]
            exact itK.put fL (by simp)
        · obtain ⟨PA, sA, ⟨ys, hys, hyl, hit⟩, v4, v5, v6, rfl⟩ := hP'
          simp only [tSeq, tIfS, tTest, tB, tAnd, tOr, tNot, tAndV, tOrV, tNotV, tIf, tOp, tUn, tChain, rEq, rNe, rI0, rI, rU, tCallR, tCons, tNil, tC, tVar, tRet, tRetN, tTup_k, tLst_k, tCB, tNext, tAsg, gName, gTup, gCons, gNil, tDrop, tPar, tFld, ClX.tCVal, tPropR, rBin, rBinT, rNeOwn, rSetL_k, gSub, tMakeK_k, tMethR, rInO, tDNewK_k, tYes, wipe, tMakeR_k, tSMeth, tSMethK, rMulS, decide_true, tNever, sFld, rIsiT, and_false, rListOf, rTupOf, rLenSeq, rIxL, rIxT, rIxS, rCat_k, rRep_k, rSlL_k, rSlS, rNewStrs_k, rAppend_k, tBM, tBM0, tM0, tM1, tSl, tNoPart, tPart, tLc_k, tFor_k, iList, iTup, iEnumT, iRng1, iRng2, iRng2L, iStr, L2.start, List.map, List.length_cons, List.length_nil, List.cons_append, List.nil_append, List.getElem?_cons_succ, List.getElem?_cons_zero, Option.some.injEq, V.int.injEq, V.bl.injEq, V.str.injEq, V.ref.injEq, exists_eq_left', exists_eq_left, and_assoc, exists_and_left, exists_eq, exists_eq', true_and, and_true, List.set_cons_zero, List.set_cons_succ, List.set, decide_eq_true_eq, Bool.not_eq_true', if_true, if_false, rIx, cx_K, nox_K, List.replicate_succ, List.replicate_zero, Nat.reduceSub, Bool.true_eq_false, Bool.false_eq_true, Nat.reduceAdd, List.cons.injEq, reduceCtorEq, false_and, false_or, or_false, tAug, rSetO, rJoin, rInDT, rRepT1]
          refine ⟨_, .inl ⟨SqL.of hys, kN.mk fun T1 HB fB => kNew.mk (by show 2 ≤ sizeLine; decide) fun ol HC fC => ?_⟩⟩
          have PB := PA.same fB.same
          have PC := PB.same fC.same
          refine ⟨p, c, ol, _, _, rfl, PC, by omega, fC.at_, PB.ne_new fC.new, by show 0 < 2; decide, by show 2 < 1073741824; decide, fun v H14 hv s15 P15 => k v H14 ?_ ((sA.trans (SameBut.of (fB.same.trans fC.same))).trans s15) (P15.le (by omega))⟩
          have hit' : ∀ x ∈ ys, ItC [p, D] H14 x := fun x h => (((hit x h).same fB.same).same fC.same).but s15 (by simp)
          simp only [List.mem_cons, List.not_mem_nil, or_false] at hv
          rcases hv with rfl | rfl
          · exact hnd_items (.inl (s15 _ _ Dp (fC.get (fB.get hys)))) (by omega) hit'
          · exact hnd_items (.inr (s15 _ _ (PA.ne_new fB.new) (fC.get fB.at_))) (by omega) hit'
end
end Pf
end
section
namespace Pf
open PySem PySem.Spec PyProof.Rows L2 Ow StX
open SX (S)
/-- 0, or a value that is no size -/
def OddZ (H : Hp) (v : V) : Prop := v = .int 0 ∨ OddV 200 H v
theorem OddZ.bad {K : PySem.W.Frag} {H : Hp} {v : V} (h : OddZ H v) : BadI K 1 201 H v := h.elim (fun h => .inr ⟨0, h, by decide⟩) fun h => h.bad (by decide) (by decide) (by decide)
theorem OddZ.same {H H' : Hp} {v : V} (h : OddZ H v) (s : Same H H') : OddZ H' v := h.imp id fun h => h.same s
theorem OddZ.ext {H H' : Hp} {v : V} (h : OddZ H v) (s : LamX.ExtN H H') : OddZ H' v := h.imp id fun h => h.ext s
theorem OddZ.extB {H H' : Hp} {p c : Addr} {n : Int} {v : V} (h : OddZ H v) (P : Pen H p c n) (s : ExtB p H H') : OddZ H' v := h.imp id fun h => h.extB P s
def spSz (T1 T2 T3 : Addr) : Sp := fun vs H Q _ => ∃ (p c : Addr) (n : Int), vs = [.ref p] ∧ Pen H p c n ∧ LamX.Tabs (TLs T1 T2 T3) H ∧ n < 900000 ∧ ∀ H', ExtB p H H' → Pen H' p c (n + 12) → LamX.Tabs (TLs T1 T2 T3) H' → Q (.bl true) H'
section
variable {P : Program} {w : World} {K : PySem.W.Frag} {mg : Str → Option Value} {base : Heap} {a : Adr}
set_option maxHeartbeats 4000000
theorem ok_sizes_right (T : Txt K mg a) (sb : SysB base) {c2 Tb1 Tb2 Tb3 : Addr} (ne12 : Tb1 ≠ Tb2) (ne13 : Tb1 ≠ Tb3) (ne23 : Tb2 ≠ Tb3) (FC : FnC K "_law_sizes_right" "_law_sizes_right" s__law_sizes_right a._law_sizes_right c2) (TB2 : LamX.TabB base mg c2 Tb2) : FnG P w K mg base CX0 14 a._law_sizes_right (spSz Tb1 Tb2 Tb3) := by
  have G__law_draw : FnR P w K mg base CX0 1 a._law_draw spPDraw := ok_pdraw T
  have G__law_pick : FnR P w K mg base CX0 2 a._law_pick spPick := ok_pick T
  have G__law_odd_whole : FnR P w K mg base CX0 3 a._law_odd_whole spOdd := ok_oddw T
  have G_plain : FnR P w K mg base (CX P w) 5 a.Picture_plain (spPlainE K a.Picture a.BadSize a.BadColour) := ok_plainE T
  have G_Picture_height := ok_height (P := P) (w := w) (base := base) T
  refine FC.okG sc__law_sizes_right (fun _ _ _ _ _ _ us hl => match us, hl with | [_], _ => rfl) (fun vs H Q E h => by obtain ⟨p, c, n, rfl, _⟩ := h; rfl) (fun A outer s H vs Q E hr hg h => ?_)
  obtain ⟨p, c, n, rfl, hP, hT, hn, k⟩ := h
  refine ⟨_, (pss_cons (ps_set (i := 1) sc__law_sizes_right.nd rfl (Or.inr rfl) (pe_lst (pa_cons (pe_op op_add pe_int (pe_callR G__law_draw (hr.mono (by decide)) T.m__law_draw T.k__law_draw pass0 (pa_cons (pv 0) (pa_cons pe_int pa_nil)))) (pa_cons (pe_op op_add pe_int (pe_callR G__law_draw (hr.mono (by decide)) T.m__law_draw T.k__law_draw pass0 (pa_cons (pv 0) (pa_cons pe_int pa_nil)))) (pa_cons (pe_callR G__law_draw (hr.mono (by decide)) T.m__law_draw T.k__law_draw pass0 (pa_cons (pv 0) (pa_cons pe_int pa_nil))) pa_nil)))))
      (pss_cons (ps_set (i := 2) sc__law_sizes_right.nd rfl (Or.inr rfl) (pe_lst (pa_cons (pe_callR G__law_odd_whole (hr.mono (by decide)) T.m__law_odd_whole T.k__law_odd_whole pass0 (pa_cons (pv 0) (pa_cons pe_int pa_nil))) (pa_cons (pe_callR G__law_odd_whole (hr.mono (by decide)) T.m__law_odd_whole T.k__law_odd_whole pass0 (pa_cons (pv 0) (pa_cons pe_int pa_nil))) (pa_cons (pe_callR G__law_odd_whole (hr.mono (by decide)) T.m__law_odd_whole T.k__law_odd_whole pass0 (pa_cons (pv 0) (pa_cons pe_int pa_nil))) pa_nil)))))
      (pss_cons (ps_asg (pe_callR G__law_pick (hr.mono (by decide)) T.m__law_pick T.k__law_pick pass0 (pa_cons (pv 0) (pa_cons (pe_lst (pa_cons pe_int (pa_cons (pe_ix ix_list (pv 2) pe_int (fun _ _ => rfl)) pa_nil))) pa_nil))) (pg_sub (pv 2) pe_int set_list))
      (pss_cons (ps_set (i := 3) sc__law_sizes_right.nd rfl (Or.inr rfl) (pe_lc (own := [("_law_k", 8)]) (g := gName 8) (by rfl) sc__law_sizes_right.nd (pi_range1 rfl T.n_range (pa_cons pe_int pa_nil)) (blkOk_by (own := [("_law_k", 8)]) (N := ["_law_pen_here", "_law_good", "_law_odd", "_law_bent", "_law_dues", "_law_due_here", "_law_heard_here", "_law_some", "_law_k"]) (sc := defScope s__law_sizes_right) (by decide +kernel)) (fun _ _ _ _ _ => (pg_name (i := 8) sc__law_sizes_right.nd rfl (Or.inl rfl))) (fun _ _ _ _ _ => pts_nil) (fun _ _ _ _ _ => (pe_cmpR op_eq (pe_callR G__law_draw (hr.mono (by decide)) T.m__law_draw T.k__law_draw pass0 (pa_cons (pv 0) (pa_cons pe_int pa_nil))) pe_int (nomark _)))))
      (pss_cons (ps_set (i := 7) sc__law_sizes_right.nd rfl (Or.inr rfl) (pe_lc (own := [("_law_k", 8)]) (g := gName 8) (by rfl) sc__law_sizes_right.nd (pi_range1 rfl T.n_range (pa_cons pe_int pa_nil)) (blkOk_by (own := [("_law_k", 8)]) (N := ["_law_pen_here", "_law_good", "_law_odd", "_law_bent", "_law_dues", "_law_due_here", "_law_heard_here", "_law_some", "_law_k"]) (sc := defScope s__law_sizes_right) (by decide +kernel)) (fun _ _ _ _ _ => (pg_name (i := 8) sc__law_sizes_right.nd rfl (Or.inl rfl))) (fun _ _ _ _ _ => pts_nil) (fun _ _ _ _ _ => (pe_ifExp (pt_val (pe_ix (ix_listK (K := K) rfl) (pv 3) (pv 8) (fun _ _ => rfl))) (pe_ix (ix_listK (K := K) rfl) (pv 2) (pv 8) (fun _ _ => rfl)) (pe_ix (ix_listK (K := K) rfl) (pv 1) (pv 8) (fun _ _ => rfl))))))
      (pss_cons (ps_set (i := 4) sc__law_sizes_right.nd rfl (Or.inr rfl) (pe_lst (pa_cons (pe_tup (pa_cons pe_str (pa_cons pe_str pa_nil))) (pa_cons (pe_tup (pa_cons pe_str (pa_cons pe_str pa_nil))) (pa_cons (pe_tup (pa_cons pe_str (pa_cons (pe_ix ix_list (pv 2) pe_int (fun _ _ => rfl)) pa_nil))) pa_nil)))))
      (pss_cons (ps_set (i := 5) sc__law_sizes_right.nd rfl (Or.inl rfl) (pe_ix ix_list (pe_op op_cat (pe_lc (own := [("_law_k", 8)]) (g := gName 8) (by rfl) sc__law_sizes_right.nd (pi_range1 rfl T.n_range (pa_cons pe_int pa_nil)) (blkOk_by (own := [("_law_k", 8)]) (N := ["_law_pen_here", "_law_good", "_law_odd", "_law_bent", "_law_dues", "_law_due_here", "_law_heard_here", "_law_some", "_law_k"]) (sc := defScope s__law_sizes_right) (by decide +kernel)) (fun _ _ _ _ _ => (pg_name (i := 8) sc__law_sizes_right.nd rfl (Or.inl rfl))) (fun _ _ _ _ _ => (pts_one (pt_val (pe_ix (ix_listK (K := K) rfl) (pv 3) (pv 8) (fun _ _ => rfl))))) (fun _ _ _ _ _ => (pe_ix (ix_listK (K := K) rfl) (pv 4) (pv 8) (fun _ _ => rfl)))) (pe_lst (pa_cons pe_non pa_nil))) pe_int (fun _ _ => rfl)))
      (pss_cons (ps_set (i := 6) sc__law_sizes_right.nd rfl (Or.inl rfl) (pe_heard (k := 10) (TL := TLs Tb1 Tb2 Tb3) T rfl TB2 rfl (in_TL2 _ _ _) (un_TL2 ne12 ne13 ne23) (hr.mono (by decide)) (LamX.lamS_by (sc := defScope s__law_sizes_right) (by decide +kernel)) rfl (fun _ _ _ _ _ => rfl) (fun A outer s H E f c' hr' => pe_propR (pe_smeth (pe_glob (v := .ref a.Picture) rfl T.m_Picture rfl) T.cr_Picture T.sm_plain G_plain (hr'.mono (by decide)) (passUp (takes_of rfl rfl rfl rfl)) (pa_cons (pe_ix (ix_listK (K := K) rfl) (pv 7) pe_int (fun _ _ => rfl)) (pa_cons (pe_ix (ix_listK (K := K) rfl) (pv 7) pe_int (fun _ _ => rfl)) (pa_cons (pe_ix (ix_listK (K := K) rfl) (pv 7) pe_int (fun _ _ => rfl)) pa_nil)))) T.c_Picture.cl T.p_Picture_height G_Picture_height (hr'.mono (by decide)) pass0)))
      (pss_one (ps_ret (pe_cmpR op_eq (pe_callB (call_reprQ sb hg hr.units) (by rfl) T.n_repr (by decide +kernel) (pa_cons (pv 6) pa_nil)) (pe_callB (call_reprQ sb hg hr.units) (by rfl) T.n_repr (by decide +kernel) (pa_cons (pe_ifExp (pt_cmpR op_isN (pv 5) pe_non (nomark _)) (pe_lst (pa_cons (pe_ix ix_list (pv 1) pe_int (fun _ _ => rfl)) pa_nil)) (pv 5)) pa_nil)) (nomark _)))))))))))), ?_⟩
  simp only [tSeq, tIfS, tTest, tB, tAnd, tOr, tNot, tAndV, tOrV, tNotV, tIf, tOp, tUn, tChain, rEq, rNe, rI0, rI, rU, tCallR, tCons, tNil, tC, tVar, tRet, tRetN, tTup_k, tLst_k, tCB, tNext, tAsg, gName, gTup, gCons, gNil, tDrop, tPar, tFld, ClX.tCVal, tPropR, rBin, rBinT, rNeOwn, rSetL_k, gSub, tMakeK_k, tMethR, rInO, tDNewK_k, tYes, wipe, tMakeR_k, tSMeth, tSMethK, rMulS, decide_true, tNever, sFld, rIsiT, and_false, rListOf, rTupOf, rLenSeq, rIxL, rIxT, rIxS, rCat_k, rRep_k, rSlL_k, rSlS, rNewStrs_k, rAppend_k, tBM, tBM0, tM0, tM1, tSl, tNoPart, tPart, tLc_k, tFor_k, iList, iTup, iEnumT, iRng1, iRng2, iRng2L, iStr, L2.start, List.map, List.length_cons, List.length_nil, List.cons_append, List.nil_append, List.getElem?_cons_succ, List.getElem?_cons_zero, Option.some.injEq, V.int.injEq, V.bl.injEq, V.str.injEq, V.ref.injEq, exists_eq_left', exists_eq_left, and_assoc, exists_and_left, exists_eq, exists_eq', true_and, and_true, List.set_cons_zero, List.set_cons_succ, List.set, decide_eq_true_eq, Bool.not_eq_true', if_true, if_false, rIx, cx_K, nox_K, List.replicate_succ, List.replicate_zero, Nat.reduceSub, Bool.true_eq_false, Bool.false_eq_true, Nat.reduceAdd, List.cons.injEq, reduceCtorEq, false_and, false_or, or_false, tAug, rSetO, rJoin, rInDT, rRepT1]
  refine ⟨p, c, _, n, rfl, hP, by omega, by decide, by decide, fun z0 H1 z00 z01 s1 P1 => ⟨_, rfl, p, c, _, _, rfl, P1, by omega, by decide, by decide, fun z1 H2 z10 z11 s2 P2 => ⟨_, rfl, p, c, _, _, rfl, P2, by omega, by decide, by decide, fun z2 H3 z20 z21 s3 P3 => ?_⟩⟩⟩
  refine kNew.mk (by show 3 ≤ sizeLine; decide) fun gl H4 f4 => ?_
  have P4 := P3.same f4.same
  refine ⟨p, c, _, _, rfl, P4, by omega, fun o0 H5 d5 s5 P5 => ⟨p, c, _, _, rfl, P5, by omega, fun o1 H6 d6 s6 P6 => ⟨p, c, _, _, rfl, P6, by omega, fun o2 H7 d7 s7 P7 => kNew.mk (by show 3 ≤ sizeLine; decide) fun ol H8 f8 => ?_⟩⟩⟩
  have P8 := P7.same f8.same
  have glp : gl ≠ p := P3.ne_new f4.new
  have olp : ol ≠ p := P7.ne_new f8.new
  have g8 := f8.get (s7 _ _ glp (s6 _ _ glp (s5 _ _ glp f4.at_)))
  have gol : gl ≠ ol := f8.ne (s7 _ _ glp (s6 _ _ glp (s5 _ _ glp f4.at_)))
  have s07 := (((((s1.trans s2).trans s3).trans (SameBut.of f4.same)).trans s5).trans s6).trans s7
  have nol : H ol = none := by
    cases e : H ol with
    | none => rfl
    | some o =>
      have z := s07 _ _ olp e
      rw [f8.new] at z
      cases z
  have s08 := s07.trans (SameBut.of f8.same)
  have d8_0 := ((d5.extB P5 (ExtB.but s6)).extB P6 (ExtB.but s7)).same f8.same
  have d8_1 := (d6.extB P6 (ExtB.but s7)).same f8.same
  have d8_2 := d7.same f8.same
  have o8 := f8.at_
  clear P1 P2 P3 P4 P5 P6 P7 s1 s2 s3 s5 s6 s7 s07 f4 f8 d5 d6 d7
  refine ⟨ol, rfl, _, SqL.of o8, _, rfl, kNew.mk (by show 2 ≤ sizeLine; decide) fun l9 H9 f9 => ?_⟩
  have P9 := P8.same f9.same
  refine ⟨p, c, l9, _, _, rfl, P9, by omega, f9.at_, P8.ne_new f9.new, by show 0 < 2; decide, by show 2 < 1073741824; decide, fun w0 H10 hv s10 P10 => ?_⟩
  have w9 : OddZ H9 w0 := by
    simp only [List.mem_cons, List.not_mem_nil, or_false] at hv
    rcases hv with rfl | rfl
    · exact .inl rfl
    · exact .inr (d8_0.same f9.same)
  have o10 := s10 _ _ olp (f9.get o8)
  have g10 := s10 _ _ glp (f9.get g8)
  have s8T := (SameBut.of f9.same).trans s10
  refine ⟨ol, rfl, _, o10, 0, rfl, kPutS.mk fun H11 f11 => ⟨by decide, by decide, ?_⟩⟩
  have o11 := f11.at_
  have g11 := f11.get gol g10
  have colc : ol ≠ c := fun e => by
    obtain ⟨_, _, _, _, h2, _⟩ := hP
    rw [← e, nol] at h2
    cases h2
  have P11 := P10.putP olp colc f11
  have sb11 : SameBut p H H11 := fun b o nb e => f11.get (ne_of_none e nol) ((s08.trans s8T) b o nb e)
  have T11 : LamX.Tabs (TLs Tb1 Tb2 Tb3) H11 := tabs_but (tabs_pen hT hP (s08.trans s8T)) o10 (fun _ z => by cases z) (fun _ z => by cases z) fun b o n e => f11.get n e
  have keep : ∀ {m : Int} {v : V} {xs : List V}, H10 ol = some (.lst xs) → (xs[0]? ≠ some (.int 0) ∨ xs.length = 3) → OddV m H10 v → OddV m H11 v := fun h1 h2 h => h.of fun b o e q => f11.get (fun z => by
    subst z
    rw [h1] at e
    cases e
    rcases q with q | q | q
    · cases q
    · cases q
      rcases h2 with h2 | h2
      · exact h2 rfl
      · cases h2
    · cases q) e
  have z11 : OddZ H11 w0 := ((w9.extB P9 (ExtB.but s10)).imp id fun h => keep o10 (.inr rfl) h)
  have d11_1 := keep o10 (.inr rfl) ((d8_1.same f9.same).extB P9 (ExtB.but s10))
  have d11_2 := keep o10 (.inr rfl) ((d8_2.same f9.same).extB P9 (ExtB.but s10))
  clear P8 P9 P10 o8 o10 g8 g10 s08 s8T f9 s10 w9 d8_0 d8_1 d8_2 hv keep f11
  refine kLc.it walk_range (fun D j H' => Pen H' p c (n + 8 + (j : Nat)) ∧ SameBut p H11 H' ∧ D ≠ p ∧ H11 D = none ∧ ∃ bs : List Bool, H' D = some (.lst (bs.map V.bl)) ∧ bs.length = j)
    (fun D H' f => ⟨(P11.same f.same).le (by omega), SameBut.of f.same, P11.ne_new f.new, f.new, [], f.at_, rfl⟩) (fun _ _ _ _ => trivial) (fun D j xv H7 H8 hj hI hY => ?_) fun bl H12 hI => ?_
  · obtain ⟨P7, s7, Dp, nD, bs, hbs, hlen⟩ := hI
    obtain ⟨rfl, rfl⟩ := hY
    simp only [tSeq, tIfS, tTest, tB, tAnd, tOr, tNot, tAndV, tOrV, tNotV, tIf, tOp, tUn, tChain, rEq, rNe, rI0, rI, rU, tCallR, tCons, tNil, tC, tVar, tRet, tRetN, tTup_k, tLst_k, tCB, tNext, tAsg, gName, gTup, gCons, gNil, tDrop, tPar, tFld, ClX.tCVal, tPropR, rBin, rBinT, rNeOwn, rSetL_k, gSub, tMakeK_k, tMethR, rInO, tDNewK_k, tYes, wipe, tMakeR_k, tSMeth, tSMethK, rMulS, decide_true, tNever, sFld, rIsiT, and_false, rListOf, rTupOf, rLenSeq, rIxL, rIxT, rIxS, rCat_k, rRep_k, rSlL_k, rSlS, rNewStrs_k, rAppend_k, tBM, tBM0, tM0, tM1, tSl, tNoPart, tPart, tLc_k, tFor_k, iList, iTup, iEnumT, iRng1, iRng2, iRng2L, iStr, L2.start, List.map, List.length_cons, List.length_nil, List.cons_append, List.nil_append, List.getElem?_cons_succ, List.getElem?_cons_zero, Option.some.injEq, V.int.injEq, V.bl.injEq, V.str.injEq, V.ref.injEq, exists_eq_left', exists_eq_left, and_assoc, exists_and_left, exists_eq, exists_eq', true_and, and_true, List.set_cons_zero, List.set_cons_succ, List.set, decide_eq_true_eq, Bool.not_eq_true', if_true, if_false, rIx, cx_K, nox_K, List.replicate_succ, List.replicate_zero, Nat.reduceSub, Bool.true_eq_false, Bool.false_eq_true, Nat.reduceAdd, List.cons.injEq, reduceCtorEq, false_and, false_or, or_false, tAug, rSetO, rJoin, rInDT, rRepT1]
    have hj : j < 3 := hj
    refine ⟨p, c, 2, _, rfl, P7, by omega, by decide, by decide, fun d H9 d0 d1' s9 P9 => ⟨rfl, ?_⟩⟩
    have cD : D ≠ c := fun e => by
      obtain ⟨_, _, _, _, h2, _⟩ := P11
      rw [← e, nD] at h2
      cases h2
    refine ⟨_, s9 _ _ Dp hbs, by rw [List.length_map, hlen]; exact Nat.lt_of_lt_of_le (show j < 201 by omega) (by decide), ?_, fun b o nb e => ?_, Dp, nD, bs ++ [decide (V.int d = V.int 0)], by rw [upd_same, List.map_append]; rfl, by rw [List.length_append, hlen]; rfl⟩
    · have f := (kPut.mk (l := D) (o := HO.lst (bs.map V.bl ++ [V.bl (decide (V.int d = V.int 0))])) (H := H9) (Q := fun _ H' => Put H9 H' D (HO.lst (bs.map V.bl ++ [V.bl (decide (V.int d = V.int 0))]))) fun H' f => f)
      exact (P9.putP Dp cD f).le (by push_cast; omega)
    · rw [upd_ne (ne_of_none e nD)]
      exact s9 _ _ nb (s7 _ _ nb e)
  · obtain ⟨P12, s12, blp, nbl, bs, hbs, hlen⟩ := hI
    obtain ⟨b0, b1, b2, rfl⟩ : ∃ b0 b1 b2, bs = [b0, b1, b2] := by
      match bs, hlen with
      | [b0, b1, b2], _ => exact ⟨b0, b1, b2, rfl⟩
    have g12 := s12 _ _ glp g11
    have o12 := s12 _ _ olp o11
    have T12 := tabs_pen T11 P11 s12
    have z12 := z11.extB P11 (ExtB.but s12)
    have d12_1 := d11_1.extB P11 (ExtB.but s12)
    have d12_2 := d11_2.extB P11 (ExtB.but s12)
    have e12 : ExtB p H H12 := (ExtB.but sb11).trans (ExtB.but s12)
    clear P11 s12 g11 o11 T11 z11 d11_1 d11_2 sb11 hlen
    refine ⟨by decide, by decide, ?_⟩
    refine kLc.map walk_range [if b0 then w0 else .int (1 + z0), if b1 then o1 else .int (1 + z1), if b2 then o2 else .int z2] rfl (fun _ _ => trivial) (fun D j xv HA HB hj cl hY => ?_) fun sl H13 f13 => ?_
    · obtain ⟨rfl, rfl⟩ := hY
      have hb := cl.same _ _ hbs
      have hg' := cl.same _ _ g12
      have ho := cl.same _ _ o12
      simp only [Int.zero_add, tSeq, tIfS, tTest, tB, tAnd, tOr, tNot, tAndV, tOrV, tNotV, tIf, tOp, tUn, tChain, rEq, rNe, rI0, rI, rU, tCallR, tCons, tNil, tC, tVar, tRet, tRetN, tTup_k, tLst_k, tCB, tNext, tAsg, gName, gTup, gCons, gNil, tDrop, tPar, tFld, ClX.tCVal, tPropR, rBin, rBinT, rNeOwn, rSetL_k, gSub, tMakeK_k, tMethR, rInO, tDNewK_k, tYes, wipe, tMakeR_k, tSMeth, tSMethK, rMulS, decide_true, tNever, sFld, rIsiT, and_false, rListOf, rTupOf, rLenSeq, rIxL, rIxT, rIxS, rCat_k, rRep_k, rSlL_k, rSlS, rNewStrs_k, rAppend_k, tBM, tBM0, tM0, tM1, tSl, tNoPart, tPart, tLc_k, tFor_k, iList, iTup, iEnumT, iRng1, iRng2, iRng2L, iStr, L2.start, List.map, List.length_cons, List.length_nil, List.cons_append, List.nil_append, List.getElem?_cons_succ, List.getElem?_cons_zero, Option.some.injEq, V.int.injEq, V.bl.injEq, V.str.injEq, V.ref.injEq, exists_eq_left', exists_eq_left, and_assoc, exists_and_left, exists_eq, exists_eq', true_and, and_true, List.set_cons_zero, List.set_cons_succ, List.set, decide_eq_true_eq, Bool.not_eq_true', if_true, if_false, rIx, cx_K, nox_K, List.replicate_succ, List.replicate_zero, Nat.reduceSub, Bool.true_eq_false, Bool.false_eq_true, Nat.reduceAdd, List.cons.injEq, reduceCtorEq, false_and, false_or, or_false, tAug, rSetO, rJoin, rInDT, rRepT1]
      have hj : j < 3 := hj
      refine ⟨_, SqL.of hb, ?_⟩
      have sz : ([if b0 = true then w0 else V.int (1 + z0), if b1 = true then o1 else V.int (1 + z1), if b2 = true then o2 else V.int z2] : List V).length ≤ sizeLine := by show 3 ≤ sizeLine; decide
      rcases (by omega : j = 0 ∨ j = 1 ∨ j = 2) with rfl | rfl | rfl
      · refine ⟨_, rfl, _, rfl, ?_⟩
        cases b0 with
        | true => exact ⟨_, SqL.of ho, _, rfl, kApp.at cl (Same.refl _) sz rfl⟩
        | false => exact ⟨_, SqL.of hg', _, rfl, kApp.at cl (Same.refl _) sz rfl⟩
      · refine ⟨_, rfl, _, rfl, ?_⟩
        cases b1 with
        | true => exact ⟨_, SqL.of ho, _, rfl, kApp.at cl (Same.refl _) sz rfl⟩
        | false => exact ⟨_, SqL.of hg', _, rfl, kApp.at cl (Same.refl _) sz rfl⟩
      · refine ⟨_, rfl, _, rfl, ?_⟩
        cases b2 with
        | true => exact ⟨_, SqL.of ho, _, rfl, kApp.at cl (Same.refl _) sz rfl⟩
        | false => exact ⟨_, SqL.of hg', _, rfl, kApp.at cl (Same.refl _) sz rfl⟩
    · refine kNew.mk (by show 2 ≤ sizeLine; decide) fun t0 H14 f14 => kNew.mk (by show 2 ≤ sizeLine; decide) fun t1 H15 f15 => ⟨ol, rfl, _, SqL.of (f15.get (f14.get (f13.get o12))), _, rfl, kNew.mk (by show 2 ≤ sizeLine; decide) fun t2 H16 f16 => kNew.mk (by show 3 ≤ sizeLine; decide) fun dl H17 f17 => ⟨by decide, by decide, ?_⟩⟩
      have s1317 := ((f14.same.trans f15.same).trans f16.same).trans f17.same
      have bl17 := s1317 _ _ (f13.get hbs)
      refine kLc.all walk_range (fun i => (([(b0, t0), (b1, t1), (b2, t2)].take i).filter Prod.fst).map fun q => V.ref q.2) rfl (fun _ _ => trivial) (fun D j xv HA HB hj cl hY => ?_) fun fl H18 f18 => ?_
      · obtain ⟨rfl, rfl⟩ := hY
        have hb := cl.same _ _ bl17
        have hdl := cl.same _ _ f17.at_
        have hj : j < 3 := hj
        simp only [Int.zero_add, tSeq, tIfS, tTest, tB, tAnd, tOr, tNot, tAndV, tOrV, tNotV, tIf, tOp, tUn, tChain, rEq, rNe, rI0, rI, rU, tCallR, tCons, tNil, tC, tVar, tRet, tRetN, tTup_k, tLst_k, tCB, tNext, tAsg, gName, gTup, gCons, gNil, tDrop, tPar, tFld, ClX.tCVal, tPropR, rBin, rBinT, rNeOwn, rSetL_k, gSub, tMakeK_k, tMethR, rInO, tDNewK_k, tYes, wipe, tMakeR_k, tSMeth, tSMethK, rMulS, decide_true, tNever, sFld, rIsiT, and_false, rListOf, rTupOf, rLenSeq, rIxL, rIxT, rIxS, rCat_k, rRep_k, rSlL_k, rSlS, rNewStrs_k, rAppend_k, tBM, tBM0, tM0, tM1, tSl, tNoPart, tPart, tLc_k, tFor_k, iList, iTup, iEnumT, iRng1, iRng2, iRng2L, iStr, L2.start, List.map, List.length_cons, List.length_nil, List.cons_append, List.nil_append, List.getElem?_cons_succ, List.getElem?_cons_zero, Option.some.injEq, V.int.injEq, V.bl.injEq, V.str.injEq, V.ref.injEq, exists_eq_left', exists_eq_left, and_assoc, exists_and_left, exists_eq, exists_eq', true_and, and_true, List.set_cons_zero, List.set_cons_succ, List.set, decide_eq_true_eq, Bool.not_eq_true', if_true, if_false, rIx, cx_K, nox_K, List.replicate_succ, List.replicate_zero, Nat.reduceSub, Bool.true_eq_false, Bool.false_eq_true, Nat.reduceAdd, List.cons.injEq, reduceCtorEq, false_and, false_or, or_false, tAug, rSetO, rJoin, rInDT, rRepT1]
        refine ⟨_, SqL.of hb, ?_⟩
        have sz : ∀ xs : List V, xs.length < 3 → xs.length < sizeLine := fun xs h => Nat.lt_trans h (by decide)
        rcases (by omega : j = 0 ∨ j = 1 ∨ j = 2) with rfl | rfl | rfl
        · refine ⟨_, rfl, _, rfl, ?_⟩
          cases b0 with
          | true => exact ⟨_, SqL.of hdl, _, rfl, kApp.mk cl (Same.refl _) (sz _ (Nat.le_of_ble_eq_true rfl)) rfl⟩
          | false => exact cl
        · refine ⟨_, rfl, _, rfl, ?_⟩
          cases b1 with
          | true => exact ⟨_, SqL.of hdl, _, rfl, kApp.mk cl (Same.refl _) (sz _ (by cases b0 <;> (simp))) (by cases b0 <;> rfl)⟩
          | false =>
            cases b0 <;> exact cl
        · refine ⟨_, rfl, _, rfl, ?_⟩
          cases b2 with
          | true => exact ⟨_, SqL.of hdl, _, rfl, kApp.mk cl (Same.refl _) (sz _ (by cases b0 <;> cases b1 <;> (simp))) (by cases b0 <;> cases b1 <;> rfl)⟩
          | false => cases b0 <;> cases b1 <;> exact cl
      · refine kNew.mk (by show 1 ≤ sizeLine; decide) fun nl H19 f19 => ⟨fl, rfl, nl, rfl, _, f19.get f18.at_, _, f19.at_, Nat.le_trans (show _ ≤ 4 by cases b0 <;> cases b1 <;> cases b2 <;> exact Nat.le_of_ble_eq_true rfl) (by decide), kN.mk fun rl H20 f20 => ?_⟩
        obtain ⟨rest, er⟩ : ∃ rest, ((([(b0, t0), (b1, t1), (b2, t2)].take (Int.toNat 3)).filter Prod.fst).map fun q => V.ref q.2) ++ [V.non] = (if b0 = true then V.ref t0 else if b1 = true then V.ref t1 else if b2 = true then V.ref t2 else V.non) :: rest := by
          cases b0 <;> cases b1 <;> cases b2 <;> exact ⟨_, rfl⟩
        have r20 := f20.at_
        rw [er] at r20
        refine ⟨rl, rfl, _, SqL.of r20, _, atI_nat (j := 0) rfl, ?_⟩
        have s1220 : Same H12 H20 := (((f13.same.trans s1317).trans f18.same).trans f19.same).trans f20.same
        have s1820 := (f18.same.trans f19.same).trans f20.same
        have P20 := P12.same s1220
        have T20 := tabs_same T12 s1220
        have z20 := z12.same s1220
        have d20_1 := d12_1.same s1220
        have d20_2 := d12_2.same s1220
        have g20 := s1220 _ _ g12
        have sl20 := s1820 _ _ (s1317 _ _ f13.at_)
        have t0_20 := s1820 _ _ (f17.get (f16.get (f15.get f14.at_)))
        have t1_20 := s1820 _ _ (f17.get (f16.get f15.at_))
        have t2_20 := s1820 _ _ (f17.get f16.at_)
        have e20 := e12.trans (ExtB.same s1220)
        clear f13 f14 f15 f16 f17 s1317 bl17 f18 f19 f20 er s1820 P12 T12 z12 d12_1 d12_2 g12 o12 hbs s1220 e12
        refine ⟨T20, fun H21 x21 T21 => ?_⟩
        have P21 := P20.ext x21
        have z21 := z20.ext x21
        have d21_1 := d20_1.ext x21
        have d21_2 := d20_2.ext x21
        have g21 := lst_ext g20 x21
        have sl21 := lst_ext sl20 x21
        have t0_21 := x21 _ _ t0_20 fun _ z => by cases z
        have t1_21 := x21 _ _ t1_20 fun _ z => by cases z
        have t2_21 := x21 _ _ t2_20 fun _ z => by cases z
        have e21 := e20.trans (ExtB.ext x21)
        clear P20 T20 z20 d20_1 d20_2 g20 sl20 t0_20 t1_20 t2_20 e20 x21
        simp only [TTh, tSMeth, tSeq, tIfS, tTest, tB, tAnd, tOr, tNot, tAndV, tOrV, tNotV, tIf, tOp, tUn, tChain, rEq, rNe, rI0, rI, rU, tCallR, tCons, tNil, tC, tVar, tRet, tRetN, tTup_k, tLst_k, tCB, tNext, tAsg, gName, gTup, gCons, gNil, tDrop, tPar, tFld, ClX.tCVal, tPropR, rBin, rBinT, rNeOwn, rSetL_k, gSub, tMakeK_k, tMethR, rInO, tDNewK_k, tYes, wipe, tMakeR_k, tSMeth, tSMethK, rMulS, decide_true, tNever, sFld, rIsiT, and_false, rListOf, rTupOf, rLenSeq, rIxL, rIxT, rIxS, rCat_k, rRep_k, rSlL_k, rSlS, rNewStrs_k, rAppend_k, tBM, tBM0, tM0, tM1, tSl, tNoPart, tPart, tLc_k, tFor_k, iList, iTup, iEnumT, iRng1, iRng2, iRng2L, iStr, L2.start, List.map, List.length_cons, List.length_nil, List.cons_append, List.nil_append, List.getElem?_cons_succ, List.getElem?_cons_zero, Option.some.injEq, V.int.injEq, V.bl.injEq, V.str.injEq, V.ref.injEq, exists_eq_left', exists_eq_left, and_assoc, exists_and_left, exists_eq, exists_eq', true_and, and_true, List.set_cons_zero, List.set_cons_succ, List.set, decide_eq_true_eq, Bool.not_eq_true', if_true, if_false, rIx, cx_K, nox_K, List.replicate_succ, List.replicate_zero, Nat.reduceSub, Bool.true_eq_false, Bool.false_eq_true, Nat.reduceAdd, List.cons.injEq, reduceCtorEq, false_and, false_or, or_false, tAug, rSetO, rJoin, rInDT, rRepT1]
        have shs : Sh (.str "size") := ⟨by decide +kernel, by decide +kernel, by decide +kernel, by decide +kernel⟩
        have shw : Sh (.str "width") := ⟨by decide +kernel, by decide +kernel, by decide +kernel, by decide +kernel⟩
        have shh : Sh (.str "height") := ⟨by decide +kernel, by decide +kernel, by decide +kernel, by decide +kernel⟩
        have fin : ∀ HO, Same H21 HO → Q (.bl true) HO := fun HO sO => k HO (e21.trans (ExtB.same sO)) ((P21.same sO).le (by omega)) (tabs_same T21 sO)
        refine ⟨_, SqL.of sl21, _, rfl, _, SqL.of sl21, _, rfl, _, SqL.of sl21, _, rfl, ?_⟩
        cases b0 with
        | true =>
          simp only [↓reduceIte, Bool.false_eq_true]
          refine ⟨_, _, _, rfl, .inr (.inl ⟨z21.bad, fun ed ned => .inr (.inr (.inr (.inr ⟨rfl, ed, rfl, _, upd_same, _, rfl, kN.mk fun tq HO fO => ?_⟩)))⟩)⟩
          have sO : Same H21 HO := (fresh_upd ned).same.trans fO.same
          refine repr2 fO.at_ shs shw (.str _) ?_
          rw [if_neg (by simp)]
          refine repr2 (sO _ _ t0_21) shs shw (.str _) ⟨rfl, ?_⟩
          rw [decide_eq_true rfl]
          exact fin HO sO
        | false =>
          cases b1 with
          | true =>
            simp only [↓reduceIte, Bool.false_eq_true]
            refine ⟨_, _, _, rfl, .inr (.inr (.inl ⟨_, rfl, by omega, by omega, d21_1.bad (by decide) (by decide) (by decide), fun ed ned => .inr (.inr (.inr (.inr ⟨rfl, ed, rfl, _, upd_same, _, rfl, kN.mk fun tq HO fO => ?_⟩)))⟩))⟩
            have sO : Same H21 HO := (fresh_upd ned).same.trans fO.same
            refine repr2 fO.at_ shs shh (.str _) ?_
            rw [if_neg (by simp)]
            refine repr2 (sO _ _ t1_21) shs shh (.str _) ⟨rfl, ?_⟩
            rw [decide_eq_true rfl]
            exact fin HO sO
          | false =>
            cases b2 with
            | true =>
              simp only [↓reduceIte, Bool.false_eq_true]
              obtain ⟨dk, shk, dqk⟩ := d21_2.data (K := K) (by decide) (by decide)
              refine ⟨_, _, _, rfl, .inr (.inr (.inr ⟨_, _, rfl, rfl, by omega, by omega, by omega, by omega, d21_2.bad (by decide) (by decide) (by decide), fun ed ned => .inl ⟨rfl, ed, rfl, _, upd_same, _, rfl, kN.mk fun tq HO fO => ?_⟩⟩))⟩
              have sO : Same H21 HO := (fresh_upd ned).same.trans fO.same
              have dqO := dqk HO (LamX.ExtN.of sO)
              refine repr2 fO.at_ sh_colour shk dqO ?_
              rw [if_neg (by simp)]
              refine repr2 (sO _ _ t2_21) sh_colour shk dqO ⟨rfl, ?_⟩
              rw [decide_eq_true rfl]
              exact fin HO sO
            | false =>
              simp only [↓reduceIte, Bool.false_eq_true]
              refine ⟨_, _, _, rfl, .inl ⟨_, _, _, rfl, rfl, rfl, by omega, by omega, by omega, by omega, by omega, by omega, fun x HM sM pM => ?_⟩⟩
              obtain ⟨dx, tx, hx1, hx2⟩ := pM
              refine ⟨x, rfl, dx, _, hx1, dx, tx, hx1, _, hx2, kNew.mk (by show 1 ≤ sizeLine; decide) fun l1 HN fN => ?_⟩
              have len : ((rowsV (plainRs (1 + z0) (1 + z1) z2)).length : Int) = 1 + z1 := by
                rw [List.length_map, List.length_replicate]
                omega
              rw [len] at fN
              have r1 : ∀ {H' : Hp} {l : Addr} {Q' : VK}, H' l = some (.lst [.int (1 + z1)]) → Q' (.str (PyData.list [.int (1 + z1)]).shown) H' → rReprQ K [.ref l] H' Q' := fun h k => by
                have si := Sh.int (i := 1 + z1) (by omega)
                refine ⟨_, .list [.int (1 + z1)], rfl, .lst (SqL.of h) (.cons (.int _) .nil), by show (PyData.showable (.int (1 + z1)) && true) = true; rw [si.s]; rfl, by simp [PyData.depth, PyData.depthAll], ?_, k⟩
                refine Nat.le_trans (PyData.shown_le 62 (by decide) _ (by show (PyData.leavesShort 62 (.int (1 + z1)) && true) = true; rw [si.l]; rfl)) ?_
                have := si.w
                exact Nat.le_trans (Nat.add_le_add_right (Nat.mul_le_mul_left 64 (show PyData.weight (.list [.int (1 + z1)]) ≤ 1000 by simp only [PyData.weight, PyData.weightAll] at *; omega)) 62) (by decide)
              refine r1 fN.at_ ?_
              refine ⟨_, SqL.of (fN.get (sM _ _ g21)), _, rfl, kNew.mk (by show 1 ≤ sizeLine; decide) fun l2 HP fP => r1 fP.at_ ⟨rfl, ?_⟩⟩
              rw [decide_eq_true rfl]
              exact fin HP ((sM.trans fN.same).trans fP.same)
end
end Pf
end
section
namespace Pf
open PySem PySem.Spec PyProof.Rows L2 Ow StX
open SX (S)
theorem Pic.but {H H' : Hp} {C x p c : Addr} {n : Int} {rs : List (List Nat)} (h : Pic H C x rs) (P : Pen H p c n) (s : SameBut p H H') : Pic H' C x rs := by
  obtain ⟨dx, t, h1, h2⟩ := h
  exact ⟨dx, t, s _ _ (P.ne h1 fun _ z => by cases z) h1, s _ _ (P.ne h2 fun _ z => by cases z) h2⟩
/-- .. and of rows of such -/
structure Sh6 (d : PyData) : Prop where
  s : d.showable = true
  dp : d.depth ≤ 6
  l : d.leavesShort 62 = true
  w : d.weight ≤ 2000
theorem Sh.t2 {s : Str} {d : PyData} (hs : Sh (.str s)) (h : Sh d) : Sh6 (.tuple [.str s, d]) := by
  obtain ⟨a1, a2, a3, a4⟩ := hs
  obtain ⟨b1, b2, b3, b4⟩ := h
  exact ⟨by simp [PyData.showable, PyData.showableAll, b1], by simp only [PyData.depth, PyData.depthAll] at *; omega, by show (PyData.leavesShort 62 (.str s) && (PyData.leavesShort 62 d && true)) = true; rw [a3, b3]; rfl, by simp only [PyData.weight, PyData.weightAll] at *; omega⟩
theorem Sh.t3 {s : Str} {d e : PyData} (hs : Sh (.str s)) (h : Sh d) (h' : Sh e) : Sh6 (.tuple [.str s, d, e]) := by
  obtain ⟨a1, a2, a3, a4⟩ := hs
  obtain ⟨b1, b2, b3, b4⟩ := h
  obtain ⟨c1, c2, c3, c4⟩ := h'
  exact ⟨by simp [PyData.showable, PyData.showableAll, b1, c1], by simp only [PyData.depth, PyData.depthAll] at *; omega, by show (PyData.leavesShort 62 (.str s) && (PyData.leavesShort 62 d && (PyData.leavesShort 62 e && true))) = true; rw [a3, b3, c3]; rfl, by simp only [PyData.weight, PyData.weightAll] at *; omega⟩
theorem sh6_all : ∀ ds : List PyData, (∀ d ∈ ds, Sh6 d) → PyData.showableAll ds = true ∧ PyData.depthAll ds ≤ 6 ∧ PyData.leavesShortAll 62 ds = true ∧ PyData.weightAll ds ≤ 2001 * ds.length
  | [], _ => by simp [PyData.showableAll, PyData.depthAll, PyData.leavesShortAll, PyData.weightAll]
  | d :: ds, h => by
    obtain ⟨a1, a2, a3, a4⟩ := h d List.mem_cons_self
    obtain ⟨b1, b2, b3, b4⟩ := sh6_all ds fun e he => h e (List.mem_cons_of_mem _ he)
    refine ⟨?_, ?_, ?_, ?_⟩
    · simp only [PyData.showableAll, a1, b1]; rfl
    · simp only [PyData.depthAll]; omega
    · simp only [PyData.leavesShortAll, a3, b3]; rfl
    · simp only [PyData.weightAll, List.length_cons]; omega
theorem repr6 {K : PySem.W.Frag} {H : Hp} {l : Addr} {xs : List V} {ds : List PyData} {Q : VK} (hl : H l = some (.lst xs)) (hq : DqAll K H xs ds) (hs : ∀ d ∈ ds, Sh6 d) (hn : ds.length ≤ 20) (k : Q (.str (PyData.list ds).shown) H) : rReprQ K [.ref l] H Q := by
  obtain ⟨a1, a2, a3, a4⟩ := sh6_all ds hs
  refine ⟨_, .list ds, rfl, .lst (SqL.of hl) hq, by simp only [PyData.showable]; exact a1, by simp only [PyData.depth]; omega, ?_, k⟩
  refine Nat.le_trans (PyData.shown_le 62 (by decide) _ (by simp only [PyData.leavesShort]; exact a3)) ?_
  simp only [PyData.weight]
  exact Nat.le_trans (Nat.add_le_add_right (Nat.mul_le_mul_left 64 (show _ ≤ 41000 by omega)) 62) (by decide)
/-- what stays while pixels are asked for -/
structure PxS (K : PySem.W.Frag) (C T1 T2 T3 p c x gt : Addr) (n : Int) (w : Nat) (rs : List (List Nat)) (g0 g1 : Int) (one two : V) (H : Hp) : Prop where
  P : Pen H p c n
  T : LamX.Tabs (TLs T1 T2 T3) H
  X : Pic H C x rs
  G : H gt = some (.tup [.int g0, .int g1])
  O1 : OddV ((w : Int) - 1) H one
  O2 : OddV ((rs.length : Int) - 1) H two
section
variable {K : PySem.W.Frag} {C T1 T2 T3 p c x gt l : Addr} {n : Int} {w : Nat} {rs : List (List Nat)} {g0 g1 : Int} {one two : V} {H H' : Hp}
theorem PxS.same (S : PxS K C T1 T2 T3 p c x gt n w rs g0 g1 one two H) (s : Same H H') : PxS K C T1 T2 T3 p c x gt n w rs g0 g1 one two H' := ⟨S.P.same s, tabs_same S.T s, S.X.same s, s _ _ S.G, S.O1.same s, S.O2.same s⟩
theorem PxS.ext (S : PxS K C T1 T2 T3 p c x gt n w rs g0 g1 one two H) (s : LamX.ExtN H H') (T : LamX.Tabs (TLs T1 T2 T3) H') : PxS K C T1 T2 T3 p c x gt n w rs g0 g1 one two H' := by
  obtain ⟨dx, tx, h1, h2⟩ := S.X
  exact ⟨S.P.ext s, T, ⟨dx, tx, s _ _ h1 (fun _ z => by cases z), s _ _ h2 (fun _ z => by cases z)⟩, s _ _ S.G (fun _ z => by cases z), S.O1.ext s, S.O2.ext s⟩
theorem OddV.put {m : Int} {v : V} {t : Addr} {xs : List V} {o : HO} (h : OddV m H v) (hl : H l = some (.lst (.ref t :: xs))) (f : Put H H' l o) : OddV m H' v := h.of fun b o' e q => f.get (fun z => by
  rw [z, hl] at e
  cases e
  rcases q with q | q | q <;> cases q) e
theorem PxS.put (S : PxS K C T1 T2 T3 p c x gt n w rs g0 g1 one two H) {t : Addr} {xs : List V} {o : HO} (hl : H l = some (.lst (.ref t :: xs))) (lp : l ≠ p) (lc : l ≠ c) (f : Put H H' l o) : PxS K C T1 T2 T3 p c x gt n w rs g0 g1 one two H' := by
  obtain ⟨dx, tx, h1, h2⟩ := S.X
  exact ⟨S.P.putP lp lc f, tabs_but S.T hl (fun _ z => by cases z) (fun _ z => by cases z) fun b o n e => f.get n e, ⟨dx, tx, f.get (ne_of h1 hl fun z => by cases z) h1, f.get (ne_of h2 hl fun z => by cases z) h2⟩, f.get (ne_of S.G hl fun z => by cases z) S.G, S.O1.put hl f, S.O2.put hl f⟩
end
/-- the pixel asked for is none -/
def IsBad (K : PySem.W.Frag) (C T1 T2 T3 p c x gt : Addr) (n : Int) (w : Nat) (rs : List (List Nat)) (g0 g1 : Int) (one two i j : V) : Prop := ∀ H, PxS K C T1 T2 T3 p c x gt n w rs g0 g1 one two H → BadPx K w rs.length H i j ∧ DataOf K H i ∧ DataOf K H j
/-- a lambda that asks for it -/
theorem heard_px {K : PySem.W.Frag} {C C0 C1 C2 BP C4 T1 T2 T3 p c x gt : Addr} {n : Int} {w : Nat} {rs : List (List Nat)} {g0 g1 : Int} {one two i j : V} {H : Hp} {σ : List (Option V)} {t : XK → TE} {Q : VK} (S : PxS K C T1 T2 T3 p c x gt n w rs g0 g1 one two H) (B : IsBad K C T1 T2 T3 p c x gt n w rs g0 g1 one two i j)
    (ht : ∀ (E : XK) (H' : Hp) (Q' : VK), PxS K C T1 T2 T3 p c x gt n w rs g0 g1 one two H' → BadPx K w rs.length H' i j → (∀ H'', Same H' H'' → Out2 BP "x" "y" H'' E i j) → t E σ H' Q')
    (k : ∀ r H', LamX.ExtN H H' → PxS K C T1 T2 T3 p c x gt n w rs g0 g1 one two H' → H' r = some (.tup [.str "pixel", i, j]) → Q (.ref r) H') : LamX.tLam (TLs T1 T2 T3) (TTh C0 C1 C2 BP C4) t σ H Q := by
  refine ⟨S.T, fun H1 x1 T1' => ?_⟩
  have S1 := S.ext x1 T1'
  refine ht _ H1 _ S1 (B H1 S1).1 fun H2 s2 ed ned => .inr (.inr (.inr (.inl ⟨rfl, ed, _, _, _, rfl, upd_same, rfl, rfl, kN.mk fun r HO fO => ?_⟩)))
  have sO : Same H1 HO := (s2.trans (fresh_upd ned).same).trans fO.same
  exact k r HO (x1.trans (LamX.ExtN.of sO)) (S1.same sO) fO.at_
structure Acc (K : PySem.W.Frag) (C T1 T2 T3 p c x gt : Addr) (n : Int) (w : Nat) (rs : List (List Nat)) (g0 g1 : Int) (one two i j : V) (l : Addr) (H0 H : Hp) (ts : List Addr) : Prop where
  S : PxS K C T1 T2 T3 p c x gt n w rs g0 g1 one two H
  e : ExtB p H0 H
  at_ : H l = some (.lst (ts.map V.ref))
  all : ∀ t ∈ ts, H t = some (.tup [.str "pixel", i, j])
  ne : ts ≠ []
  lp : l ≠ p
  lc : l ≠ c
  new : ∀ b o, H0 b = some o → (∀ ps, o ≠ .tbl ps) → b ≠ l
theorem Acc.step {K : PySem.W.Frag} {C C0 C1 C2 BP C4 T1 T2 T3 p c x gt l : Addr} {n : Int} {w : Nat} {rs : List (List Nat)} {g0 g1 : Int} {one two i j : V} {H0 H : Hp} {ts : List Addr} {σ : List (Option V)} {t : XK → TE} {Q : VK} (A : Acc K C T1 T2 T3 p c x gt n w rs g0 g1 one two i j l H0 H ts) (B : IsBad K C T1 T2 T3 p c x gt n w rs g0 g1 one two i j) (hl : ts.length ≤ 10)
    (ht : ∀ (E : XK) (H' : Hp) (Q' : VK), PxS K C T1 T2 T3 p c x gt n w rs g0 g1 one two H' → BadPx K w rs.length H' i j → (∀ H'', Same H' H'' → Out2 BP "x" "y" H'' E i j) → t E σ H' Q')
    (k : ∀ r H', Acc K C T1 T2 T3 p c x gt n w rs g0 g1 one two i j l H0 H' (ts ++ [r]) → Q .non H') : tyV K "list" (.ref l) H ∧ LamX.tLam (TLs T1 T2 T3) (TTh C0 C1 C2 BP C4) t σ H fun v H1 => ∃ l', V.ref l = V.ref l' ∧ ∃ ys, H1 l' = some (.lst ys) ∧ ys.length < sizeLine ∧ kPut l' (.lst (ys ++ [v])) Q H1 := by
  refine ⟨.inl ⟨rfl, _, SqL.of A.at_⟩, heard_px A.S B ht fun r H1 x1 S1 hr => ⟨l, rfl, _, x1 _ _ A.at_ (fun _ z => by cases z), ?_, kPut.mk fun H2 f2 => k r H2 ?_⟩⟩
  · rw [List.length_map]
    exact Nat.lt_of_le_of_lt hl (by decide)
  have l1 := x1 _ _ A.at_ fun _ z => by cases z
  obtain ⟨t0, ts0, ets⟩ : ∃ t0 ts0, ts = t0 :: ts0 := by
    cases ts with
    | nil => exact absurd rfl A.ne
    | cons a b => exact ⟨_, _, rfl⟩
  have l1' : H1 l = some (.lst (.ref t0 :: ts0.map V.ref)) := by rw [l1, ets]; rfl
  exact { S := S1.put l1' A.lp A.lc f2
          e := fun b o nb e nt => f2.get (A.new b o e nt) (x1 _ _ (A.e b o nb e nt) nt)
          at_ := by rw [f2.at_, List.map_append]; rfl
          all := fun t ht' => by
            rcases List.mem_append.mp ht' with h | h
            · exact f2.get (ne_of (x1 _ _ (A.all t h) fun _ z => by cases z) l1 fun z => by cases z) (x1 _ _ (A.all t h) fun _ z => by cases z)
            · rw [List.mem_singleton.mp h]
              exact f2.get (ne_of hr l1 fun z => by cases z) hr
          ne := by simp
          lp := A.lp, lc := A.lc, new := A.new }
/-- an axis that is none, as drawn -/
inductive TurnV (H : Hp) : V → Prop
  | non : TurnV H .non
  | str {s : Str} : PyData.strOk s = true → (Str.ofString "across" == s) = false → (Str.ofString "down" == s) = false → TurnV H (.str s)
  | int : TurnV H (.int 0)
  | tr : TurnV H (.bl true)
  | tup {t : Addr} : H t = some (.tup [.str "down"]) → TurnV H (.ref t)
  | lst {t : Addr} : H t = some (.lst []) → TurnV H (.ref t)
theorem TurnV.bad {K : PySem.W.Frag} {H : Hp} {v : V} (h : TurnV H v) : BadAx K H v := by
  cases h with
  | non => exact ⟨.none, .non, by decide +kernel, by decide +kernel, by decide +kernel⟩
  | @str s h1 h2 h3 => exact ⟨.str s, .str s, by simp [SeqAt.shaped, PyData.canLay0, PyData.depth, h1], by simpa [PyData.eqv] using h2, by simpa [PyData.eqv] using h3⟩
  | int => exact ⟨.int 0, .int 0, by decide +kernel, by decide +kernel, by decide +kernel⟩
  | tr => exact ⟨.bool true, .bl true, by decide +kernel, by decide +kernel, by decide +kernel⟩
  | tup h => exact ⟨.tuple [.str "down"], .tup (.inl (.inl h)) (.cons (.str _) .nil), by decide +kernel, by decide +kernel, by decide +kernel⟩
  | lst h => exact ⟨.list [], .lst (SqL.of h) .nil, by decide +kernel, by decide +kernel, by decide +kernel⟩
theorem TurnV.of {H H' : Hp} {v : V} (h : TurnV H v) (s : ∀ b o, H b = some o → (o = .tup [.str "down"] ∨ o = .lst []) → H' b = some o) : TurnV H' v := by
  cases h with
  | non => exact .non
  | str h1 h2 h3 => exact .str h1 h2 h3
  | int => exact .int
  | tr => exact .tr
  | tup h => exact .tup (s _ _ h (.inl rfl))
  | lst h => exact .lst (s _ _ h (.inr rfl))
theorem TurnV.same {H H' : Hp} {v : V} (h : TurnV H v) (s : Same H H') : TurnV H' v := h.of fun b o e _ => s b o e
theorem TurnV.ext {H H' : Hp} {v : V} (h : TurnV H v) (s : LamX.ExtN H H') : TurnV H' v := h.of fun b o e q => s b o e fun ps z => by rcases q with q | q <;> rw [q] at z <;> cases z
def spPx (T1 T2 T3 : Addr) : Sp := fun vs H Q _ => ∃ (p c : Addr) (n : Int), vs = [.ref p] ∧ Pen H p c n ∧ LamX.Tabs (TLs T1 T2 T3) H ∧ n < 900000 ∧ ∀ H', ExtB p H H' → Pen H' p c (n + 12) → LamX.Tabs (TLs T1 T2 T3) H' → Q (.bl true) H'
section
variable {P : Program} {w : World} {K : PySem.W.Frag} {mg : Str → Option Value} {base : Heap} {a : Adr}
set_option maxHeartbeats 4000000
theorem ok_pixels_right (T : Txt K mg a) (sb : SysB base) {c3 Tb1 Tb2 Tb3 : Addr} (ne12 : Tb1 ≠ Tb2) (ne13 : Tb1 ≠ Tb3) (ne23 : Tb2 ≠ Tb3) (FC : FnC K "_law_pixels_right" "_law_pixels_right" s__law_pixels_right a._law_pixels_right c3) (TB3 : LamX.TabB base mg c3 Tb3) : FnG P w K mg base CX0 14 a._law_pixels_right (spPx Tb1 Tb2 Tb3) := by
  have G__law_draw : FnR P w K mg base CX0 1 a._law_draw spPDraw := ok_pdraw T
  have G__law_pick : FnR P w K mg base CX0 2 a._law_pick spPick := ok_pick T
  have G__law_odd_whole : FnR P w K mg base CX0 3 a._law_odd_whole spOdd := ok_oddw T
  have G_plain : FnR P w K mg base (CX P w) 5 a.Picture_plain (spPlainE K a.Picture a.BadSize a.BadColour) := ok_plainE T
  have G_getitem : FnR P w K mg base (CX P w) 5 a.Picture_getitem (spPGetE K a.Picture a.BadPixel) := ok_pgetE T
  have G_region : FnR P w K mg base (CX P w) 5 a.Picture_region (spRegE K a.Picture a.BadPixel) := ok_regE T
  have G_way : FnR P w K mg base (CX P w) 5 a.Picture_way (spWayE K a.Picture a.BadPixel) := ok_wayE T
  have G_area : FnR P w K mg base (CX P w) 5 a.Picture_area (spAreaE K a.BadColour) := ok_areaE T
  have G_flipped : FnR P w K mg base (CX P w) 5 a.Picture_flipped (spFlipE K a.BadDeed) := ok_flipE T
  refine FC.okG sc__law_pixels_right (fun _ _ _ _ _ _ us hl => match us, hl with | [_], _ => rfl) (fun vs H Q E h => by obtain ⟨p, c, n, rfl, _⟩ := h; rfl) (fun A outer s H vs Q E hr hg h => ?_)
  obtain ⟨p, c, n, rfl, hP, hT, hn, k⟩ := h
  refine ⟨_, (pss_cons (ps_par (i := 1) (j := 2) (by rfl) sc__law_pixels_right.nd rfl rfl (by decide) rfl rfl (pa_cons (pe_op op_add pe_int (pe_callR G__law_draw (hr.mono (by decide)) T.m__law_draw T.k__law_draw pass0 (pa_cons (pv 0) (pa_cons pe_int pa_nil)))) (pa_cons (pe_op op_add pe_int (pe_callR G__law_draw (hr.mono (by decide)) T.m__law_draw T.k__law_draw pass0 (pa_cons (pv 0) (pa_cons pe_int pa_nil)))) pa_nil)) (by rfl))
      (pss_cons (ps_set (i := 7) sc__law_pixels_right.nd rfl (Or.inr rfl) (pe_smeth (pe_glob (v := .ref a.Picture) rfl T.m_Picture rfl) T.cr_Picture T.sm_plain G_plain (hr.mono (by decide)) (passUp LamX.takes0) (pa_cons (pv 1) (pa_cons (pv 2) (pa_cons pe_int pa_nil)))))
      (pss_cons (ps_set (i := 4) sc__law_pixels_right.nd rfl (Or.inr rfl) (pe_tup (pa_cons (pe_callR G__law_draw (hr.mono (by decide)) T.m__law_draw T.k__law_draw pass0 (pa_cons (pv 0) (pa_cons (pv 1) pa_nil))) (pa_cons (pe_callR G__law_draw (hr.mono (by decide)) T.m__law_draw T.k__law_draw pass0 (pa_cons (pv 0) (pa_cons (pv 2) pa_nil))) pa_nil))))
      (pss_cons (ps_asg (pe_tup (pa_cons (pe_callR G__law_odd_whole (hr.mono (by decide)) T.m__law_odd_whole T.k__law_odd_whole pass0 (pa_cons (pv 0) (pa_cons (pe_op op_sub (pv 1) pe_int) pa_nil))) (pa_cons (pe_callR G__law_odd_whole (hr.mono (by decide)) T.m__law_odd_whole T.k__law_odd_whole pass0 (pa_cons (pv 0) (pa_cons (pe_op op_sub (pv 2) pe_int) pa_nil))) pa_nil))) (pg_tup rfl (pgs_cons (pg_name (i := 8) sc__law_pixels_right.nd rfl (Or.inr rfl)) (pgs_cons (pg_name (i := 11) sc__law_pixels_right.nd rfl (Or.inr rfl)) pgs_nil))))
      (pss_cons (ps_for PassesOwn.never rfl (pi_list (pe_lst (pa_cons (pe_tup (pa_cons (pv 8) (pa_cons (pe_ix ix_tup (pv 4) pe_int (fun _ _ => rfl)) pa_nil))) (pa_cons (pe_tup (pa_cons (pe_ix ix_tup (pv 4) pe_int (fun _ _ => rfl)) (pa_cons (pv 11) pa_nil))) (pa_cons (pe_tup (pa_cons (pv 8) (pa_cons (pv 11) pa_nil))) pa_nil))))) (pg_tup rfl (pgs_cons (pg_name (i := 5) sc__law_pixels_right.nd rfl (Or.inr rfl)) (pgs_cons (pg_name (i := 6) sc__law_pixels_right.nd rfl (Or.inr rfl)) pgs_nil)))
          (pss_cons (ps_set (i := 3) sc__law_pixels_right.nd rfl (Or.inl rfl) (pe_lst (pa_cons (pe_heard (k := 10) (TL := TLs Tb1 Tb2 Tb3) T rfl TB3 rfl (in_TL3 _ _ _) (un_TL3 ne12 ne13 ne23) (hr.mono (by decide)) (LamX.lamS_by (sc := defScope s__law_pixels_right) (by decide +kernel)) rfl (fun _ _ _ _ _ => rfl) (fun A outer s H E f c' hr' => pe_subO T.o_Picture_getitem T.f_Picture_getitem T.fi_getitem G_getitem (hr'.mono (by decide)) (passUp (takes_of rfl rfl rfl rfl)) (pv 7) (pe_tup (pa_cons (pv 5) (pa_cons (pv 6) pa_nil))))) pa_nil)))
          (pss_cons (ps_expr (pe_bm PySem.F.plainAttrs_list PySem.F.slot_list_append PySem.F.type_list_append mt_append (pv 3) (pa_cons (pe_heard (k := 10) (TL := TLs Tb1 Tb2 Tb3) T rfl TB3 rfl (in_TL3 _ _ _) (un_TL3 ne12 ne13 ne23) (hr.mono (by decide)) (LamX.lamS_by (sc := defScope s__law_pixels_right) (by decide +kernel)) rfl (fun _ _ _ _ _ => rfl) (fun A outer s H E f c' hr' => pe_methR (pv 7) T.c_Picture.cl T.mt_region G_region (hr'.mono (by decide)) (passUp (takes_of rfl rfl rfl rfl))  (pa_cons (pv 5) (pa_cons (pv 6) pa_nil)))) pa_nil)))
          (pss_cons (ps_expr (pe_bm PySem.F.plainAttrs_list PySem.F.slot_list_append PySem.F.type_list_append mt_append (pv 3) (pa_cons (pe_heard (k := 10) (TL := TLs Tb1 Tb2 Tb3) T rfl TB3 rfl (in_TL3 _ _ _) (un_TL3 ne12 ne13 ne23) (hr.mono (by decide)) (LamX.lamS_by (sc := defScope s__law_pixels_right) (by decide +kernel)) rfl (fun _ _ _ _ _ => rfl) (fun A outer s H E f c' hr' => pe_methR (pv 7) T.c_Picture.cl T.mt_way G_way (hr'.mono (by decide)) (passUp (takes_of rfl rfl rfl rfl))  (pa_cons (pv 5) (pa_cons (pv 6) (pa_cons (pe_ix (show IxR _ (rIxT K) from ix_tup) (pv 4) pe_int (fun _ _ => rfl)) (pa_cons (pe_ix (show IxR _ (rIxT K) from ix_tup) (pv 4) pe_int (fun _ _ => rfl)) pa_nil)))))) pa_nil)))
          (pss_cons (ps_expr (pe_bm PySem.F.plainAttrs_list PySem.F.slot_list_append PySem.F.type_list_append mt_append (pv 3) (pa_cons (pe_heard (k := 10) (TL := TLs Tb1 Tb2 Tb3) T rfl TB3 rfl (in_TL3 _ _ _) (un_TL3 ne12 ne13 ne23) (hr.mono (by decide)) (LamX.lamS_by (sc := defScope s__law_pixels_right) (by decide +kernel)) rfl (fun _ _ _ _ _ => rfl) (fun A outer s H E f c' hr' => pe_methR (pv 7) T.c_Picture.cl T.mt_way G_way (hr'.mono (by decide)) (passUp (takes_of rfl rfl rfl rfl))  (pa_cons (pe_ix (show IxR _ (rIxT K) from ix_tup) (pv 4) pe_int (fun _ _ => rfl)) (pa_cons (pe_ix (show IxR _ (rIxT K) from ix_tup) (pv 4) pe_int (fun _ _ => rfl)) (pa_cons (pv 5) (pa_cons (pv 6) pa_nil)))))) pa_nil)))
          (pss_cons (ps_expr (pe_bm PySem.F.plainAttrs_list PySem.F.slot_list_append PySem.F.type_list_append mt_append (pv 3) (pa_cons (pe_heard (k := 10) (TL := TLs Tb1 Tb2 Tb3) T rfl TB3 rfl (in_TL3 _ _ _) (un_TL3 ne12 ne13 ne23) (hr.mono (by decide)) (LamX.lamS_by (sc := defScope s__law_pixels_right) (by decide +kernel)) rfl (fun _ _ _ _ _ => rfl) (fun A outer s H E f c' hr' => pe_methR (pv 7) T.c_Picture.cl T.mt_way G_way (hr'.mono (by decide)) (passUp (takes_of rfl rfl rfl rfl))  (pa_cons (pv 5) (pa_cons (pv 6) (pa_cons (pv 11) (pa_cons (pv 8) pa_nil)))))) pa_nil)))
          (pss_one (ps_if (pt_cmpR op_ne (pe_callB (call_reprQ sb hg hr.units) (by rfl) T.n_repr (by decide +kernel) (pa_cons (pv 3) pa_nil)) (pe_callB (call_reprQ sb hg hr.units) (by rfl) T.n_repr (by decide +kernel) (pa_cons (pe_op op_rep (pe_lst (pa_cons (pe_tup (pa_cons pe_str (pa_cons (pv 5) (pa_cons (pv 6) pa_nil)))) pa_nil)) pe_int) pa_nil)) (nomark _))
              (pss_one (ps_ret pe_bl))
              pss_nil))))))))
      (pss_cons (ps_asg (pe_tup (pa_cons (pe_callR G__law_odd_whole (hr.mono (by decide)) T.m__law_odd_whole T.k__law_odd_whole pass0 (pa_cons (pv 0) (pa_cons pe_int pa_nil))) (pa_cons (pe_callR G__law_pick (hr.mono (by decide)) T.m__law_pick T.k__law_pick pass0 (pa_cons (pv 0) (pa_cons (pe_lst (pa_cons pe_non (pa_cons pe_str (pa_cons pe_str (pa_cons pe_int (pa_cons pe_bl (pa_cons pe_str (pa_cons (pe_tup (pa_cons pe_str pa_nil)) (pa_cons pe_str (pa_cons (pe_lst pa_nil) pa_nil)))))))))) pa_nil))) pa_nil))) (pg_tup rfl (pgs_cons (pg_name (i := 9) sc__law_pixels_right.nd rfl (Or.inr rfl)) (pgs_cons (pg_name (i := 10) sc__law_pixels_right.nd rfl (Or.inr rfl)) pgs_nil))))
      (pss_cons (ps_set (i := 3) sc__law_pixels_right.nd rfl (Or.inl rfl) (pe_lst (pa_cons (pe_heard (k := 10) (TL := TLs Tb1 Tb2 Tb3) T rfl TB3 rfl (in_TL3 _ _ _) (un_TL3 ne12 ne13 ne23) (hr.mono (by decide)) (LamX.lamS_by (sc := defScope s__law_pixels_right) (by decide +kernel)) rfl (fun _ _ _ _ _ => rfl) (fun A outer s H E f c' hr' => pe_methR (pv 7) T.c_Picture.cl T.mt_area G_area (hr'.mono (by decide)) (passUp (takes_of rfl rfl rfl rfl))  (pa_cons (pv 9) pa_nil))) pa_nil)))
      (pss_cons (ps_expr (pe_bm PySem.F.plainAttrs_list PySem.F.slot_list_append PySem.F.type_list_append mt_append (pv 3) (pa_cons (pe_heard (k := 10) (TL := TLs Tb1 Tb2 Tb3) T rfl TB3 rfl (in_TL3 _ _ _) (un_TL3 ne12 ne13 ne23) (hr.mono (by decide)) (LamX.lamS_by (sc := defScope s__law_pixels_right) (by decide +kernel)) rfl (fun _ _ _ _ _ => rfl) (fun A outer s H E f c' hr' => pe_methR (pv 7) T.c_Picture.cl T.mt_flipped G_flipped (hr'.mono (by decide)) (passUp (takes_of rfl rfl rfl rfl))  (pa_cons (pv 10) pa_nil))) pa_nil)))
      (pss_one (ps_ret (pe_cmpR op_eq (pe_callB (call_reprQ sb hg hr.units) (by rfl) T.n_repr (by decide +kernel) (pa_cons (pv 3) pa_nil)) (pe_callB (call_reprQ sb hg hr.units) (by rfl) T.n_repr (by decide +kernel) (pa_cons (pe_lst (pa_cons (pe_tup (pa_cons pe_str (pa_cons (pv 9) pa_nil))) (pa_cons (pe_tup (pa_cons pe_str (pa_cons pe_str pa_nil))) pa_nil))) pa_nil)) (nomark _)))))))))))), ?_⟩
  simp only [tSeq, tIfS, tTest, tB, tAnd, tOr, tNot, tAndV, tOrV, tNotV, tIf, tOp, tUn, tChain, rEq, rNe, rI0, rI, rU, tCallR, tCons, tNil, tC, tVar, tRet, tRetN, tTup_k, tLst_k, tCB, tNext, tAsg, gName, gTup, gCons, gNil, tDrop, tPar, tFld, ClX.tCVal, tPropR, rBin, rBinT, rNeOwn, rSetL_k, gSub, tMakeK_k, tMethR, rInO, tDNewK_k, tYes, wipe, tMakeR_k, tSMeth, tSMethK, rMulS, decide_true, tNever, sFld, rIsiT, and_false, rListOf, rTupOf, rLenSeq, rIxL, rIxT, rIxS, rCat_k, rRep_k, rSlL_k, rSlS, rNewStrs_k, rAppend_k, tBM, tBM0, tM0, tM1, tSl, tNoPart, tPart, tLc_k, tFor_k, iList, iTup, iEnumT, iRng1, iRng2, iRng2L, iStr, L2.start, List.map, List.length_cons, List.length_nil, List.cons_append, List.nil_append, List.getElem?_cons_succ, List.getElem?_cons_zero, Option.some.injEq, V.int.injEq, V.bl.injEq, V.str.injEq, V.ref.injEq, exists_eq_left', exists_eq_left, and_assoc, exists_and_left, exists_eq, exists_eq', true_and, and_true, List.set_cons_zero, List.set_cons_succ, List.set, decide_eq_true_eq, Bool.not_eq_true', if_true, if_false, rIx, cx_K, nox_K, List.replicate_succ, List.replicate_zero, Nat.reduceSub, Bool.true_eq_false, Bool.false_eq_true, Nat.reduceAdd, List.cons.injEq, reduceCtorEq, false_and, false_or, or_false, tAug, rSetO, rJoin, rInDT, rRepT1]
  refine ⟨p, c, _, n, rfl, hP, by omega, by decide, by decide, fun zw H1 w0 w1 s1 P1 => ⟨_, rfl, p, c, _, _, rfl, P1, by omega, by decide, by decide, fun zt H2 t0 t1 s2 P2 => ⟨_, rfl, ?_⟩⟩⟩
  have gp := good_plain (c := 3) (show 1 ≤ 1 + zw by omega) (by omega) (show 1 ≤ 1 + zt by omega) (by omega) (by decide) (by decide)
  refine ⟨_, _, _, rfl, .inl ⟨_, _, _, rfl, rfl, rfl, by omega, by omega, by omega, by omega, by decide, by decide, fun x H3 s3 X3 => ?_⟩⟩
  have P3 := P2.same s3
  have sb3 := (s1.trans s2).trans (SameBut.of s3)
  obtain ⟨wn, hwn⟩ : ∃ wn : Nat, 1 + zw = (wn : Int) := ⟨(1 + zw).toNat, by omega⟩
  obtain ⟨tn, htn⟩ : ∃ tn : Nat, 1 + zt = (tn : Int) := ⟨(1 + zt).toNat, by omega⟩
  rw [hwn, htn] at X3 gp
  rw [hwn, htn]
  rw [Int.toNat_natCast] at gp
  have hrl : (plainRs (wn : Int) (tn : Int) 3).length = tn := by rw [List.length_replicate, Int.toNat_natCast]
  generalize plainRs (wn : Int) (tn : Int) 3 = rs at *
  refine ⟨p, c, _, _, rfl, P3, by omega, by omega, by omega, fun g0 H4 g00 g01 s4 P4 => ⟨p, c, _, _, rfl, P4, by omega, by omega, by omega, fun g1 H5 g10 g11 s5 P5 => kNew.mk (by show 2 ≤ sizeLine; decide) fun gt H6 f6 => ?_⟩⟩
  have X4 := X3.but P3 s4
  have X5 := X4.but P4 s5
  have P6 := P5.same f6.same
  have sb6 := ((sb3.trans s4).trans s5).trans (SameBut.of f6.same)
  refine ⟨p, c, _, _, rfl, P6, by omega, fun one H7 o7 s7 P7 => ⟨p, c, _, _, rfl, P7, by omega, fun two H8 o8 s8 P8 => kNew.mk (by show 2 ≤ sizeLine; decide) fun t9 H9 f9 => ⟨_, rfl, _, .inl (.inl f9.at_), rfl, _, _, rfl, _, _, rfl, rfl, ?_⟩⟩⟩
  have gtp : gt ≠ p := P5.ne_new f6.new
  have S9 : PxS K a.Picture Tb1 Tb2 Tb3 p c x gt (n + 6) wn rs g0 g1 one two H9 :=
    { P := (P8.same f9.same).le (by omega), T := tabs_same (tabs_pen hT hP ((sb6.trans s7).trans s8)) f9.same, X := (((X5.same f6.same).but P6 s7).but P7 s8).same f9.same
      G := f9.get (s8 _ _ gtp (s7 _ _ gtp f6.at_)), O1 := ((o7.extB P7 (ExtB.but s8)).same f9.same), O2 := by rw [hrl]; exact o8.same f9.same }
  have e9 : ExtB p H H9 := (ExtB.but ((sb6.trans s7).trans s8)).trans (ExtB.same f9.same)
  clear P1 P2 P3 P4 P5 P6 P7 P8 s1 s2 s3 s4 s5 s7 s8 sb3 sb6 X3 X4 X5 f6 f9 o7 o8
  simp only [tSeq, tIfS, tTest, tB, tAnd, tOr, tNot, tAndV, tOrV, tNotV, tIf, tOp, tUn, tChain, rEq, rNe, rI0, rI, rU, tCallR, tCons, tNil, tC, tVar, tRet, tRetN, tTup_k, tLst_k, tCB, tNext, tAsg, gName, gTup, gCons, gNil, tDrop, tPar, tFld, ClX.tCVal, tPropR, rBin, rBinT, rNeOwn, rSetL_k, gSub, tMakeK_k, tMethR, rInO, tDNewK_k, tYes, wipe, tMakeR_k, tSMeth, tSMethK, rMulS, decide_true, tNever, sFld, rIsiT, and_false, rListOf, rTupOf, rLenSeq, rIxL, rIxT, rIxS, rCat_k, rRep_k, rSlL_k, rSlS, rNewStrs_k, rAppend_k, tBM, tBM0, tM0, tM1, tSl, tNoPart, tPart, tLc_k, tFor_k, iList, iTup, iEnumT, iRng1, iRng2, iRng2L, iStr, L2.start, List.map, List.length_cons, List.length_nil, List.cons_append, List.nil_append, List.getElem?_cons_succ, List.getElem?_cons_zero, Option.some.injEq, V.int.injEq, V.bl.injEq, V.str.injEq, V.ref.injEq, exists_eq_left', exists_eq_left, and_assoc, exists_and_left, exists_eq, exists_eq', true_and, and_true, List.set_cons_zero, List.set_cons_succ, List.set, decide_eq_true_eq, Bool.not_eq_true', if_true, if_false, rIx, cx_K, nox_K, List.replicate_succ, List.replicate_zero, Nat.reduceSub, Bool.true_eq_false, Bool.false_eq_true, Nat.reduceAdd, List.cons.injEq, reduceCtorEq, false_and, false_or, or_false, tAug, rSetO, rJoin, rInDT, rRepT1]
  refine ⟨_, .inl (.inl S9.G), _, rfl, kNew.mk (by show 2 ≤ sizeLine; decide) fun ta HA fA => ⟨_, .inl (.inl (fA.get S9.G)), _, rfl, kNew.mk (by show 2 ≤ sizeLine; decide) fun tb HB fB => kNew.mk (by show 2 ≤ sizeLine; decide) fun tc HC fC => kNew.mk (by show 3 ≤ sizeLine; decide) fun lt HD fD => ⟨lt, rfl, ⟨_, SqL.of fD.at_⟩, ?_⟩⟩⟩
  have sAD := ((fA.same.trans fB.same).trans fC.same).trans fD.same
  have bad1 : IsBad K a.Picture Tb1 Tb2 Tb3 p c x gt (n + 6) wn rs g0 g1 one two one (.int g1) := fun H S => ⟨.inl (S.O1.bad (by decide) (by omega) (by omega)), S.O1.data (by omega) (by omega), DataOf.int (by omega)⟩
  have bad2 : IsBad K a.Picture Tb1 Tb2 Tb3 p c x gt (n + 6) wn rs g0 g1 one two (.int g0) two := fun H S => ⟨.inr ⟨g0, rfl, by omega, by omega, S.O2.bad (by decide) (by omega) (by omega)⟩, DataOf.int (by omega), S.O2.data (by omega) (by omega)⟩
  have bad3 : IsBad K a.Picture Tb1 Tb2 Tb3 p c x gt (n + 6) wn rs g0 g1 one two one two := fun H S => ⟨.inl (S.O1.bad (by decide) (by omega) (by omega)), S.O1.data (by omega) (by omega), S.O2.data (by omega) (by omega)⟩
  refine kFor.it walk_list (fun i σ H' => PxS K a.Picture Tb1 Tb2 Tb3 p c x gt (n + 6) wn rs g0 g1 one two H' ∧ ExtB p H H' ∧ H' lt = some (.lst [.ref ta, .ref tb, .ref tc]) ∧ H' ta = some (.tup [one, .int g1]) ∧ H' tb = some (.tup [.int g0, two]) ∧ H' tc = some (.tup [one, two]) ∧ ∃ v3 v5 v6 v9 v10, σ = [some (.ref p), some (.int (wn : Nat)), some (.int (tn : Nat)), v3, some (.ref gt), v5, v6, some (.ref x), some one, v9, v10, some two])
    ⟨S9.same sAD, e9.trans (ExtB.same sAD), fD.at_, fD.get (fC.get (fB.get fA.at_)), fD.get (fC.get fB.at_), fD.get fC.at_, _, _, _, _, _, rfl⟩ (fun _ _ H' _ q => SqL.of q.2.2.1) (fun i xv σ H1 H2 hi hP' hY => ?_) fun σ H1 hP' => ?_
  · obtain ⟨S, e, hlt, h1, h2, h3, v3, v5, v6, v9, v10, rfl⟩ := hP'
    obtain ⟨rfl, hx⟩ := hY
    have hi : i < 3 := hi
    obtain ⟨tk, vi, vj, rfl, htk, B⟩ : ∃ tk vi vj, xv = .ref tk ∧ H2 tk = some (.tup [vi, vj]) ∧ IsBad K a.Picture Tb1 Tb2 Tb3 p c x gt (n + 6) wn rs g0 g1 one two vi vj := by
      rcases (by omega : i = 0 ∨ i = 1 ∨ i = 2) with rfl | rfl | rfl
      · cases hx; exact ⟨_, _, _, rfl, h1, bad1⟩
      · cases hx; exact ⟨_, _, _, rfl, h2, bad2⟩
      · cases hx; exact ⟨_, _, _, rfl, h3, bad3⟩
    refine ⟨tk, _, rfl, .inl (.inl htk), rfl, _, _, rfl, _, _, rfl, rfl, ?_⟩
    simp only [tSeq, tIfS, tTest, tB, tAnd, tOr, tNot, tAndV, tOrV, tNotV, tIf, tOp, tUn, tChain, rEq, rNe, rI0, rI, rU, tCallR, tCons, tNil, tC, tVar, tRet, tRetN, tTup_k, tLst_k, tCB, tNext, tAsg, gName, gTup, gCons, gNil, tDrop, tPar, tFld, ClX.tCVal, tPropR, rBin, rBinT, rNeOwn, rSetL_k, gSub, tMakeK_k, tMethR, rInO, tDNewK_k, tYes, wipe, tMakeR_k, tSMeth, tSMethK, rMulS, decide_true, tNever, sFld, rIsiT, and_false, rListOf, rTupOf, rLenSeq, rIxL, rIxT, rIxS, rCat_k, rRep_k, rSlL_k, rSlS, rNewStrs_k, rAppend_k, tBM, tBM0, tM0, tM1, tSl, tNoPart, tPart, tLc_k, tFor_k, iList, iTup, iEnumT, iRng1, iRng2, iRng2L, iStr, L2.start, List.map, List.length_cons, List.length_nil, List.cons_append, List.nil_append, List.getElem?_cons_succ, List.getElem?_cons_zero, Option.some.injEq, V.int.injEq, V.bl.injEq, V.str.injEq, V.ref.injEq, exists_eq_left', exists_eq_left, and_assoc, exists_and_left, exists_eq, exists_eq', true_and, and_true, List.set_cons_zero, List.set_cons_succ, List.set, decide_eq_true_eq, Bool.not_eq_true', if_true, if_false, rIx, cx_K, nox_K, List.replicate_succ, List.replicate_zero, Nat.reduceSub, Bool.true_eq_false, Bool.false_eq_true, Nat.reduceAdd, List.cons.injEq, reduceCtorEq, false_and, false_or, or_false, tAug, rSetO, rJoin, rInDT, rRepT1]
    refine heard_px S B (fun E H' Q' S' b' o' => ?_) fun r1 HE xE SE hr1 => kNew.mk (by show 1 ≤ sizeLine; decide) fun l HF fF => ?_
    · simp only [tSeq, tIfS, tTest, tB, tAnd, tOr, tNot, tAndV, tOrV, tNotV, tIf, tOp, tUn, tChain, rEq, rNe, rI0, rI, rU, tCallR, tCons, tNil, tC, tVar, tRet, tRetN, tTup_k, tLst_k, tCB, tNext, tAsg, gName, gTup, gCons, gNil, tDrop, tPar, tFld, ClX.tCVal, tPropR, rBin, rBinT, rNeOwn, rSetL_k, gSub, tMakeK_k, tMethR, rInO, tDNewK_k, tYes, wipe, tMakeR_k, tSMeth, tSMethK, rMulS, decide_true, tNever, sFld, rIsiT, and_false, rListOf, rTupOf, rLenSeq, rIxL, rIxT, rIxS, rCat_k, rRep_k, rSlL_k, rSlS, rNewStrs_k, rAppend_k, tBM, tBM0, tM0, tM1, tSl, tNoPart, tPart, tLc_k, tFor_k, iList, iTup, iEnumT, iRng1, iRng2, iRng2L, iStr, L2.start, List.map, List.length_cons, List.length_nil, List.cons_append, List.nil_append, List.getElem?_cons_succ, List.getElem?_cons_zero, Option.some.injEq, V.int.injEq, V.bl.injEq, V.str.injEq, V.ref.injEq, exists_eq_left', exists_eq_left, and_assoc, exists_and_left, exists_eq, exists_eq', true_and, and_true, List.set_cons_zero, List.set_cons_succ, List.set, decide_eq_true_eq, Bool.not_eq_true', if_true, if_false, rIx, cx_K, nox_K, List.replicate_succ, List.replicate_zero, Nat.reduceSub, Bool.true_eq_false, Bool.false_eq_true, Nat.reduceAdd, List.cons.injEq, reduceCtorEq, false_and, false_or, or_false, tAug, rSetO, rJoin, rInDT, rRepT1]
      refine kNew.mk (by show 2 ≤ sizeLine; decide) fun tg H3 f3 => ?_
      have X3 := S'.X.same f3.same
      exact ⟨x, rfl, X3.ins, x, tg, wn, rs, vi, vj, rfl, X3, gp, f3.at_, b'.same f3.same, o' H3 f3.same⟩
    have AF : Acc K a.Picture Tb1 Tb2 Tb3 p c x gt (n + 6) wn rs g0 g1 one two vi vj l H2 HF [r1] :=
      { S := SE.same fF.same, e := (ExtB.ext xE).trans (ExtB.same fF.same), at_ := fF.at_, all := fun t ht => by rw [List.mem_singleton.mp ht]; exact fF.get hr1, ne := by simp
        lp := SE.P.ne_new fF.new, lc := by
          obtain ⟨_, _, _, _, hc, _⟩ := SE.P
          exact Ne.symm (fF.ne hc)
        new := fun b o e n => fF.ne (xE b o e n) }
    have meth : ∀ {H' : Hp}, Pic H' a.Picture x rs → ∃ dx fs, H' x = some (.ins a.Picture dx fs) ∧ ∀ m : Str, (("_rows" : Str) == m) = false → fs.lookup m = none := fun X => by
      obtain ⟨dx, tx, h1, _⟩ := X
      refine ⟨dx, _, h1, fun m hm => ?_⟩
      rw [List.lookup_cons]
      have e : (m == ("_rows" : Str)) = false := by
        rw [Bool.eq_false_iff] at hm ⊢
        intro z
        exact hm (by rw [beq_iff_eq] at z ⊢; exact z.symm)
      rw [e]
      rfl
    refine AF.step B (by show 1 ≤ 10; decide) (fun E H' Q' S' b' o' => ?_) fun r2 HG AG => AG.step B (by show 2 ≤ 10; decide) (fun E H' Q' S' b' o' => ?_) fun r3 HH AH => AH.step B (by show 3 ≤ 10; decide) (fun E H' Q' S' b' o' => ?_) fun r4 HI AI => AI.step B (by show 4 ≤ 10; decide) (fun E H' Q' S' b' o' => ?_) fun r5 HJ AJ => ?_
    · simp only [tSeq, tIfS, tTest, tB, tAnd, tOr, tNot, tAndV, tOrV, tNotV, tIf, tOp, tUn, tChain, rEq, rNe, rI0, rI, rU, tCallR, tCons, tNil, tC, tVar, tRet, tRetN, tTup_k, tLst_k, tCB, tNext, tAsg, gName, gTup, gCons, gNil, tDrop, tPar, tFld, ClX.tCVal, tPropR, rBin, rBinT, rNeOwn, rSetL_k, gSub, tMakeK_k, tMethR, rInO, tDNewK_k, tYes, wipe, tMakeR_k, tSMeth, tSMethK, rMulS, decide_true, tNever, sFld, rIsiT, and_false, rListOf, rTupOf, rLenSeq, rIxL, rIxT, rIxS, rCat_k, rRep_k, rSlL_k, rSlS, rNewStrs_k, rAppend_k, tBM, tBM0, tM0, tM1, tSl, tNoPart, tPart, tLc_k, tFor_k, iList, iTup, iEnumT, iRng1, iRng2, iRng2L, iStr, L2.start, List.map, List.length_cons, List.length_nil, List.cons_append, List.nil_append, List.getElem?_cons_succ, List.getElem?_cons_zero, Option.some.injEq, V.int.injEq, V.bl.injEq, V.str.injEq, V.ref.injEq, exists_eq_left', exists_eq_left, and_assoc, exists_and_left, exists_eq, exists_eq', true_and, and_true, List.set_cons_zero, List.set_cons_succ, List.set, decide_eq_true_eq, Bool.not_eq_true', if_true, if_false, rIx, cx_K, nox_K, List.replicate_succ, List.replicate_zero, Nat.reduceSub, Bool.true_eq_false, Bool.false_eq_true, Nat.reduceAdd, List.cons.injEq, reduceCtorEq, false_and, false_or, or_false, tAug, rSetO, rJoin, rInDT, rRepT1]
      obtain ⟨dx, fs, h1, hf⟩ := meth S'.X
      exact ⟨dx, fs, h1, hf _ (by decide), x, wn, rs, vi, vj, rfl, S'.X, gp, b', o' _ (Same.refl _)⟩
    · simp only [tSeq, tIfS, tTest, tB, tAnd, tOr, tNot, tAndV, tOrV, tNotV, tIf, tOp, tUn, tChain, rEq, rNe, rI0, rI, rU, tCallR, tCons, tNil, tC, tVar, tRet, tRetN, tTup_k, tLst_k, tCB, tNext, tAsg, gName, gTup, gCons, gNil, tDrop, tPar, tFld, ClX.tCVal, tPropR, rBin, rBinT, rNeOwn, rSetL_k, gSub, tMakeK_k, tMethR, rInO, tDNewK_k, tYes, wipe, tMakeR_k, tSMeth, tSMethK, rMulS, decide_true, tNever, sFld, rIsiT, and_false, rListOf, rTupOf, rLenSeq, rIxL, rIxT, rIxS, rCat_k, rRep_k, rSlL_k, rSlS, rNewStrs_k, rAppend_k, tBM, tBM0, tM0, tM1, tSl, tNoPart, tPart, tLc_k, tFor_k, iList, iTup, iEnumT, iRng1, iRng2, iRng2L, iStr, L2.start, List.map, List.length_cons, List.length_nil, List.cons_append, List.nil_append, List.getElem?_cons_succ, List.getElem?_cons_zero, Option.some.injEq, V.int.injEq, V.bl.injEq, V.str.injEq, V.ref.injEq, exists_eq_left', exists_eq_left, and_assoc, exists_and_left, exists_eq, exists_eq', true_and, and_true, List.set_cons_zero, List.set_cons_succ, List.set, decide_eq_true_eq, Bool.not_eq_true', if_true, if_false, rIx, cx_K, nox_K, List.replicate_succ, List.replicate_zero, Nat.reduceSub, Bool.true_eq_false, Bool.false_eq_true, Nat.reduceAdd, List.cons.injEq, reduceCtorEq, false_and, false_or, or_false, tAug, rSetO, rJoin, rInDT, rRepT1]
      obtain ⟨dx, fs, h1, hf⟩ := meth S'.X
      exact ⟨dx, fs, h1, hf _ (by decide), _, .inl (.inl S'.G), _, rfl, _, .inl (.inl S'.G), _, rfl, x, wn, rs, vi, vj, _, _, rfl, S'.X, gp, .inl ⟨b', o' _ (Same.refl _)⟩⟩
    · simp only [tSeq, tIfS, tTest, tB, tAnd, tOr, tNot, tAndV, tOrV, tNotV, tIf, tOp, tUn, tChain, rEq, rNe, rI0, rI, rU, tCallR, tCons, tNil, tC, tVar, tRet, tRetN, tTup_k, tLst_k, tCB, tNext, tAsg, gName, gTup, gCons, gNil, tDrop, tPar, tFld, ClX.tCVal, tPropR, rBin, rBinT, rNeOwn, rSetL_k, gSub, tMakeK_k, tMethR, rInO, tDNewK_k, tYes, wipe, tMakeR_k, tSMeth, tSMethK, rMulS, decide_true, tNever, sFld, rIsiT, and_false, rListOf, rTupOf, rLenSeq, rIxL, rIxT, rIxS, rCat_k, rRep_k, rSlL_k, rSlS, rNewStrs_k, rAppend_k, tBM, tBM0, tM0, tM1, tSl, tNoPart, tPart, tLc_k, tFor_k, iList, iTup, iEnumT, iRng1, iRng2, iRng2L, iStr, L2.start, List.map, List.length_cons, List.length_nil, List.cons_append, List.nil_append, List.getElem?_cons_succ, List.getElem?_cons_zero, Option.some.injEq, V.int.injEq, V.bl.injEq, V.str.injEq, V.ref.injEq, exists_eq_left', exists_eq_left, and_assoc, exists_and_left, exists_eq, exists_eq', true_and, and_true, List.set_cons_zero, List.set_cons_succ, List.set, decide_eq_true_eq, Bool.not_eq_true', if_true, if_false, rIx, cx_K, nox_K, List.replicate_succ, List.replicate_zero, Nat.reduceSub, Bool.true_eq_false, Bool.false_eq_true, Nat.reduceAdd, List.cons.injEq, reduceCtorEq, false_and, false_or, or_false, tAug, rSetO, rJoin, rInDT, rRepT1]
      obtain ⟨dx, fs, h1, hf⟩ := meth S'.X
      exact ⟨dx, fs, h1, hf _ (by decide), _, .inl (.inl S'.G), _, rfl, _, .inl (.inl S'.G), _, rfl, x, wn, rs, _, _, vi, vj, rfl, S'.X, gp, .inr ⟨g0, g1, rfl, rfl, by omega, by omega, by omega, by omega, b', o' _ (Same.refl _)⟩⟩
    · simp only [tSeq, tIfS, tTest, tB, tAnd, tOr, tNot, tAndV, tOrV, tNotV, tIf, tOp, tUn, tChain, rEq, rNe, rI0, rI, rU, tCallR, tCons, tNil, tC, tVar, tRet, tRetN, tTup_k, tLst_k, tCB, tNext, tAsg, gName, gTup, gCons, gNil, tDrop, tPar, tFld, ClX.tCVal, tPropR, rBin, rBinT, rNeOwn, rSetL_k, gSub, tMakeK_k, tMethR, rInO, tDNewK_k, tYes, wipe, tMakeR_k, tSMeth, tSMethK, rMulS, decide_true, tNever, sFld, rIsiT, and_false, rListOf, rTupOf, rLenSeq, rIxL, rIxT, rIxS, rCat_k, rRep_k, rSlL_k, rSlS, rNewStrs_k, rAppend_k, tBM, tBM0, tM0, tM1, tSl, tNoPart, tPart, tLc_k, tFor_k, iList, iTup, iEnumT, iRng1, iRng2, iRng2L, iStr, L2.start, List.map, List.length_cons, List.length_nil, List.cons_append, List.nil_append, List.getElem?_cons_succ, List.getElem?_cons_zero, Option.some.injEq, V.int.injEq, V.bl.injEq, V.str.injEq, V.ref.injEq, exists_eq_left', exists_eq_left, and_assoc, exists_and_left, exists_eq, exists_eq', true_and, and_true, List.set_cons_zero, List.set_cons_succ, List.set, decide_eq_true_eq, Bool.not_eq_true', if_true, if_false, rIx, cx_K, nox_K, List.replicate_succ, List.replicate_zero, Nat.reduceSub, Bool.true_eq_false, Bool.false_eq_true, Nat.reduceAdd, List.cons.injEq, reduceCtorEq, false_and, false_or, or_false, tAug, rSetO, rJoin, rInDT, rRepT1]
      obtain ⟨dx, fs, h1, hf⟩ := meth S'.X
      exact ⟨dx, fs, h1, hf _ (by decide), x, wn, rs, vi, vj, _, _, rfl, S'.X, gp, .inl ⟨b', o' _ (Same.refl _)⟩⟩
    obtain ⟨_, ⟨di, shi, dqi⟩, ⟨dj, shj, dqj⟩⟩ := B HJ AJ.S
    have sh := Sh.t3 sh_pixel shi shj
    have dq : ∀ {H' : Hp} {t : Addr}, LamX.ExtN HJ H' → H' t = some (.tup [.str "pixel", vi, vj]) → Dq K H' (.ref t) (.tuple [.str "pixel", di, dj]) := fun x h => .tup (.inl (.inl h)) (.cons (.str _) (.cons (dqi _ x) (.cons (dqj _ x) .nil)))
    have r0 := LamX.ExtN.of (Same.refl HJ)
    have all6 : ∀ d ∈ [PyData.tuple [.str "pixel", di, dj], .tuple [.str "pixel", di, dj], .tuple [.str "pixel", di, dj], .tuple [.str "pixel", di, dj], .tuple [.str "pixel", di, dj]], Sh6 d := fun d hd => by
      simp only [List.mem_cons, List.not_mem_nil, or_false, or_self] at hd
      rw [hd]
      exact sh
    refine repr6 AJ.at_ (.cons (dq r0 (AJ.all _ (by simp))) (.cons (dq r0 (AJ.all _ (by simp))) (.cons (dq r0 (AJ.all _ (by simp))) (.cons (dq r0 (AJ.all _ (by simp))) (.cons (dq r0 (AJ.all _ (by simp))) .nil))))) all6 (by show 5 ≤ 20; decide) ?_
    refine kNew.mk (by show 3 ≤ sizeLine; decide) fun u1 HK fK => kNew.mk (by show 1 ≤ sizeLine; decide) fun u2 HL fL => ⟨u2, rfl, _, fL.at_, by decide, by decide, by show 1 * 5 ≤ sizeLine; decide, kN.mk fun u3 HM fM => ?_⟩
    have sM := (fK.same.trans fL.same).trans fM.same
    have u1M := fM.get (fL.get fK.at_)
    have xM := LamX.ExtN.of sM
    refine repr6 fM.at_ (.cons (dq xM u1M) (.cons (dq xM u1M) (.cons (dq xM u1M) (.cons (dq xM u1M) (.cons (dq xM u1M) .nil))))) all6 (by show 5 ≤ 20; decide) ⟨rfl, ?_⟩
    rw [if_neg (by simp)]
    have eM := AJ.e.trans (ExtB.same sM)
    have ltp : lt ≠ p := by
      obtain ⟨b, r, hp⟩ := S.P.obj
      intro z
      rw [z, hp] at hlt
      cases hlt
    exact ⟨AJ.S.same sM, e.trans eM, eM _ _ ltp hlt (fun _ z => by cases z), eM _ _ (S.P.ne h1 fun _ z => by cases z) h1 (fun _ z => by cases z), eM _ _ (S.P.ne h2 fun _ z => by cases z) h2 (fun _ z => by cases z), eM _ _ (S.P.ne h3 fun _ z => by cases z) h3 (fun _ z => by cases z)⟩
  · obtain ⟨S, e, hlt, h1, h2, h3, v3, v5, v6, v9, v10, rfl⟩ := hP'
    simp only [tSeq, tIfS, tTest, tB, tAnd, tOr, tNot, tAndV, tOrV, tNotV, tIf, tOp, tUn, tChain, rEq, rNe, rI0, rI, rU, tCallR, tCons, tNil, tC, tVar, tRet, tRetN, tTup_k, tLst_k, tCB, tNext, tAsg, gName, gTup, gCons, gNil, tDrop, tPar, tFld, ClX.tCVal, tPropR, rBin, rBinT, rNeOwn, rSetL_k, gSub, tMakeK_k, tMethR, rInO, tDNewK_k, tYes, wipe, tMakeR_k, tSMeth, tSMethK, rMulS, decide_true, tNever, sFld, rIsiT, and_false, rListOf, rTupOf, rLenSeq, rIxL, rIxT, rIxS, rCat_k, rRep_k, rSlL_k, rSlS, rNewStrs_k, rAppend_k, tBM, tBM0, tM0, tM1, tSl, tNoPart, tPart, tLc_k, tFor_k, iList, iTup, iEnumT, iRng1, iRng2, iRng2L, iStr, L2.start, List.map, List.length_cons, List.length_nil, List.cons_append, List.nil_append, List.getElem?_cons_succ, List.getElem?_cons_zero, Option.some.injEq, V.int.injEq, V.bl.injEq, V.str.injEq, V.ref.injEq, exists_eq_left', exists_eq_left, and_assoc, exists_and_left, exists_eq, exists_eq', true_and, and_true, List.set_cons_zero, List.set_cons_succ, List.set, decide_eq_true_eq, Bool.not_eq_true', if_true, if_false, rIx, cx_K, nox_K, List.replicate_succ, List.replicate_zero, Nat.reduceSub, Bool.true_eq_false, Bool.false_eq_true, Nat.reduceAdd, List.cons.injEq, reduceCtorEq, false_and, false_or, or_false, tAug, rSetO, rJoin, rInDT, rRepT1]
    refine ⟨p, c, 9, _, rfl, S.P, by omega, fun paint HE oE sE PE => kNew.mk (by show 1 ≤ sizeLine; decide) fun td HF fF => kNew.mk (by show 0 ≤ sizeLine; decide) fun le HG fG => kNew.mk (by show 9 ≤ sizeLine; decide) fun ol HH fH => ?_⟩
    have PF := PE.same fF.same
    have PG := PF.same fG.same
    have PH := PG.same fH.same
    have sEH := (fF.same.trans fG.same).trans fH.same
    refine ⟨p, c, ol, _, _, rfl, PH, by omega, fH.at_, PG.ne_new fH.new, by show 0 < 9; decide, by show 9 < 1073741824; decide, fun turn HI hv sI PI => kNew.mk (by show 2 ≤ sizeLine; decide) fun tq HJ fJ => ⟨_, rfl, _, .inl (.inl fJ.at_), rfl, _, _, rfl, _, _, rfl, rfl, ?_⟩⟩
    have tI : TurnV HI turn := by
      have h1 := sI _ _ (PE.ne_new fF.new) (fH.get (fG.get fF.at_))
      have h2 := sI _ _ (PF.ne_new fG.new) (fH.get fG.at_)
      simp only [List.mem_cons, List.not_mem_nil, or_false] at hv
      rcases hv with rfl | rfl | rfl | rfl | rfl | rfl | rfl | rfl | rfl
      · exact .non
      · exact .str (by decide +kernel) (by decide +kernel) (by decide +kernel)
      · exact .str (by decide +kernel) (by decide +kernel) (by decide +kernel)
      · exact .int
      · exact .tr
      · exact .str (by decide +kernel) (by decide +kernel) (by decide +kernel)
      · exact .tup h1
      · exact .str (by decide +kernel) (by decide +kernel) (by decide +kernel)
      · exact .lst h2
    have tJ := tI.same fJ.same
    have oJ := ((oE.same sEH).extB PH (ExtB.but sI)).same fJ.same
    have XJ := (((S.X.but S.P sE).same sEH).but PH sI).same fJ.same
    have TJ := tabs_same (tabs_pen (tabs_same (tabs_pen S.T S.P sE) sEH) PH sI) fJ.same
    have PJ := PI.same fJ.same
    have eJ := e.trans ((ExtB.but ((sE.trans (SameBut.of sEH)).trans sI)).trans (ExtB.same fJ.same))
    have meth : ∀ {H' : Hp}, Pic H' a.Picture x rs → ∃ dx fs, H' x = some (.ins a.Picture dx fs) ∧ ∀ m : Str, (("_rows" : Str) == m) = false → fs.lookup m = none := fun X => by
      obtain ⟨dx, tx, h1, _⟩ := X
      refine ⟨dx, _, h1, fun m hm => ?_⟩
      rw [List.lookup_cons]
      have e : (m == ("_rows" : Str)) = false := by
        rw [Bool.eq_false_iff] at hm ⊢
        intro z
        exact hm (by rw [beq_iff_eq] at z ⊢; exact z.symm)
      rw [e]
      rfl
    have picx : ∀ {H' H'' : Hp}, Pic H' a.Picture x rs → LamX.ExtN H' H'' → Pic H'' a.Picture x rs := fun X s => by
      obtain ⟨dx, tx, h1, h2⟩ := X
      exact ⟨dx, tx, s _ _ h1 (fun _ z => by cases z), s _ _ h2 (fun _ z => by cases z)⟩
    refine ⟨TJ, fun HK xK TK => ?_⟩
    simp only [TTh, tSeq, tIfS, tTest, tB, tAnd, tOr, tNot, tAndV, tOrV, tNotV, tIf, tOp, tUn, tChain, rEq, rNe, rI0, rI, rU, tCallR, tCons, tNil, tC, tVar, tRet, tRetN, tTup_k, tLst_k, tCB, tNext, tAsg, gName, gTup, gCons, gNil, tDrop, tPar, tFld, ClX.tCVal, tPropR, rBin, rBinT, rNeOwn, rSetL_k, gSub, tMakeK_k, tMethR, rInO, tDNewK_k, tYes, wipe, tMakeR_k, tSMeth, tSMethK, rMulS, decide_true, tNever, sFld, rIsiT, and_false, rListOf, rTupOf, rLenSeq, rIxL, rIxT, rIxS, rCat_k, rRep_k, rSlL_k, rSlS, rNewStrs_k, rAppend_k, tBM, tBM0, tM0, tM1, tSl, tNoPart, tPart, tLc_k, tFor_k, iList, iTup, iEnumT, iRng1, iRng2, iRng2L, iStr, L2.start, List.map, List.length_cons, List.length_nil, List.cons_append, List.nil_append, List.getElem?_cons_succ, List.getElem?_cons_zero, Option.some.injEq, V.int.injEq, V.bl.injEq, V.str.injEq, V.ref.injEq, exists_eq_left', exists_eq_left, and_assoc, exists_and_left, exists_eq, exists_eq', true_and, and_true, List.set_cons_zero, List.set_cons_succ, List.set, decide_eq_true_eq, Bool.not_eq_true', if_true, if_false, rIx, cx_K, nox_K, List.replicate_succ, List.replicate_zero, Nat.reduceSub, Bool.true_eq_false, Bool.false_eq_true, Nat.reduceAdd, List.cons.injEq, reduceCtorEq, false_and, false_or, or_false, tAug, rSetO, rJoin, rInDT, rRepT1]
    have XK := picx XJ xK
    have oK := oJ.ext xK
    have tK := tJ.ext xK
    have PK := PJ.ext xK
    have eK := eJ.trans (ExtB.ext xK)
    obtain ⟨dx, fs, h1', hf⟩ := meth XK
    refine ⟨dx, fs, h1', hf _ (by decide), _, _, rfl, oK.bad (by decide) (by decide) (by decide), fun ed ned => .inl ⟨rfl, ed, rfl, _, upd_same, _, rfl, kN.mk fun r1 HL fL => kNew.mk (by show 1 ≤ sizeLine; decide) fun l HM fM => ?_⟩⟩
    have sKM := ((fresh_upd ned).same.trans fL.same).trans fM.same
    have nl : ∀ b o, HK b = some o → (∀ ps, o ≠ .tbl ps) → b ≠ l := fun b o e n => fM.ne (fL.get ((fresh_upd ned).same _ _ e))
    refine ⟨.inl ⟨rfl, _, SqL.of fM.at_⟩, tabs_same TK sKM, fun HN xN TN => ?_⟩
    simp only [TTh, tSeq, tIfS, tTest, tB, tAnd, tOr, tNot, tAndV, tOrV, tNotV, tIf, tOp, tUn, tChain, rEq, rNe, rI0, rI, rU, tCallR, tCons, tNil, tC, tVar, tRet, tRetN, tTup_k, tLst_k, tCB, tNext, tAsg, gName, gTup, gCons, gNil, tDrop, tPar, tFld, ClX.tCVal, tPropR, rBin, rBinT, rNeOwn, rSetL_k, gSub, tMakeK_k, tMethR, rInO, tDNewK_k, tYes, wipe, tMakeR_k, tSMeth, tSMethK, rMulS, decide_true, tNever, sFld, rIsiT, and_false, rListOf, rTupOf, rLenSeq, rIxL, rIxT, rIxS, rCat_k, rRep_k, rSlL_k, rSlS, rNewStrs_k, rAppend_k, tBM, tBM0, tM0, tM1, tSl, tNoPart, tPart, tLc_k, tFor_k, iList, iTup, iEnumT, iRng1, iRng2, iRng2L, iStr, L2.start, List.map, List.length_cons, List.length_nil, List.cons_append, List.nil_append, List.getElem?_cons_succ, List.getElem?_cons_zero, Option.some.injEq, V.int.injEq, V.bl.injEq, V.str.injEq, V.ref.injEq, exists_eq_left', exists_eq_left, and_assoc, exists_and_left, exists_eq, exists_eq', true_and, and_true, List.set_cons_zero, List.set_cons_succ, List.set, decide_eq_true_eq, Bool.not_eq_true', if_true, if_false, rIx, cx_K, nox_K, List.replicate_succ, List.replicate_zero, Nat.reduceSub, Bool.true_eq_false, Bool.false_eq_true, Nat.reduceAdd, List.cons.injEq, reduceCtorEq, false_and, false_or, or_false, tAug, rSetO, rJoin, rInDT, rRepT1]
    have XN := picx (XK.same sKM) xN
    have oN := (oK.same sKM).ext xN
    have tN := (tK.same sKM).ext xN
    have PN := (PK.same sKM).ext xN
    have lN := xN _ _ fM.at_ fun _ z => by cases z
    have r1N := xN _ _ (fM.get fL.at_) fun _ z => by cases z
    obtain ⟨dx', fs', h1'', hf'⟩ := meth XN
    refine ⟨dx', fs', h1'', hf' _ (by decide), _, _, rfl, tN.bad, fun ed2 ned2 => .inr (.inl ⟨rfl, ed2, rfl, _, upd_same, _, rfl, kN.mk fun r2 HO fO => ?_⟩)⟩
    have sNO := (fresh_upd ned2).same.trans fO.same
    refine ⟨_, sNO _ _ lN, by show 1 < sizeLine; decide, kPut.mk fun HP fP => ?_⟩
    have lp : l ≠ p := by
      obtain ⟨b, r, hp⟩ := PK.obj
      exact Ne.symm (nl _ _ hp fun _ z => by cases z)
    have lc : l ≠ c := by
      obtain ⟨_, _, _, _, hc, _⟩ := PK
      exact Ne.symm (nl _ _ hc fun _ z => by cases z)
    have PP := (PN.same sNO).putP lp lc fP
    have TP := tabs_but (tabs_same TN sNO) (sNO _ _ lN) (fun _ z => by cases z) (fun _ z => by cases z) fun b o n e => fP.get n e
    have oP := (oN.same sNO).put (sNO _ _ lN) fP
    have r1P := fP.get (ne_of (sNO _ _ r1N) (sNO _ _ lN) fun z => by cases z) (sNO _ _ r1N)
    have r2P := fP.get (ne_of fO.at_ (sNO _ _ lN) fun z => by cases z) fO.at_
    have eP : ExtB p H HP := fun b o nb e' nt => by
      have q := eK b o nb e' nt
      exact fP.get (nl b o q nt) (sNO _ _ (xN _ _ (sKM _ _ q) nt))
    obtain ⟨dk, shk, dqk⟩ := oP.data (K := K) (by decide) (by decide)
    have sh1 := Sh.t2 sh_colour shk
    have sh2 : Sh6 (.tuple [.str "deed", .str "axis"]) := ⟨by decide +kernel, by decide +kernel, by decide +kernel, by decide +kernel⟩
    have all2 : ∀ d ∈ [PyData.tuple [.str "colour", dk], .tuple [.str "deed", .str "axis"]], Sh6 d := fun d hd => by
      simp only [List.mem_cons, List.not_mem_nil, or_false] at hd
      rcases hd with rfl | rfl
      · exact sh1
      · exact sh2
    have r0 := LamX.ExtN.of (Same.refl HP)
    refine repr6 fP.at_ (.cons (.tup (.inl (.inl r1P)) (.cons (.str _) (.cons (dqk _ r0) .nil))) (.cons (.tup (.inl (.inl r2P)) (.cons (.str _) (.cons (.str _) .nil))) .nil)) all2 (by show 2 ≤ 20; decide) ?_
    refine kNew.mk (by show 2 ≤ sizeLine; decide) fun u1 HQ fQ => kNew.mk (by show 2 ≤ sizeLine; decide) fun u2 HR fR => kNew.mk (by show 2 ≤ sizeLine; decide) fun u3 HS fS => ?_
    have sS := (fQ.same.trans fR.same).trans fS.same
    refine repr6 fS.at_ (.cons (.tup (.inl (.inl (fS.get (fR.get fQ.at_)))) (.cons (.str _) (.cons (dqk _ (LamX.ExtN.of sS)) .nil))) (.cons (.tup (.inl (.inl (fS.get fR.at_))) (.cons (.str _) (.cons (.str _) .nil))) .nil)) all2 (by show 2 ≤ 20; decide) ⟨rfl, ?_⟩
    rw [decide_eq_true rfl]
    exact k HS (eP.trans (ExtB.same sS)) ((PP.same sS).le (by omega)) (tabs_same TP sS)
end
end Pf
end
section
namespace Pf
open PySem PySem.Spec PyProof.Rows L2 Ow StX
open SX (S)
theorem tup2_mk {K : PySem.W.Frag} {A : Addr} {td : Option Addr} {tn : Nat} {ts : Array (Option Value)} {u1 u2 : Value} {xs : List V} (l : K.lookup A = some ⟨.type "tuple", td, .seq #[u1, u2] tn, ts⟩) (v : Vals xs [u1, u2]) :
    ∃ (o : Obj) (its : Array Value) (n : Nat), K.lookup A = some o ∧ o.cls = .type "tuple" ∧ o.data = .seq its n ∧ its.size ≤ sizeLine ∧ Vals xs its.toList := ⟨_, #[u1, u2], tn, l, rfl, rfl, by show 2 ≤ sizeLine; decide, v⟩
theorem sh_picture : Sh (.str "picture") := ⟨by decide +kernel, by decide +kernel, by decide +kernel, by decide +kernel⟩
def spLaw (K : PySem.W.Frag) (T1 T2 T3 : Addr) : Sp := fun vs H Q _ => ∃ (sa : Addr) (ns : List Int), vs = [.ref sa] ∧ SqL K H sa (ns.map V.int) ∧ ns.length ≤ 63 ∧ H T1 = some (.tbl #[]) ∧ H T2 = some (.tbl #[]) ∧ H T3 = some (.tbl #[]) ∧ ∀ H', Q (.bl true) H'
section
variable {P : Program} {w : World} {K : PySem.W.Frag} {mg : Str → Option Value} {base : Heap} {a : Adr}
set_option maxHeartbeats 4000000
theorem ok_law (T : Txt K mg a) (sb : SysB base) {c1 c2 c3 Tb1 Tb2 Tb3 : Addr} (ne12 : Tb1 ≠ Tb2) (ne13 : Tb1 ≠ Tb3) (ne23 : Tb2 ≠ Tb3) (FC1 : FnC K "law" "law" s_law a.law c1) (TB1 : LamX.TabB base mg c1 Tb1)
    (FC2 : FnC K "_law_sizes_right" "_law_sizes_right" s__law_sizes_right a._law_sizes_right c2) (TB2 : LamX.TabB base mg c2 Tb2) (FC3 : FnC K "_law_pixels_right" "_law_pixels_right" s__law_pixels_right a._law_pixels_right c3) (TB3 : LamX.TabB base mg c3 Tb3) : FnG P w K mg base CX0 15 a.law (spLaw K Tb1 Tb2 Tb3) := by
  have G__law_pen : FnR P w K mg base CX0 1 a._law_pen (spPen K) := ok_pen T
  have G__law_handed : FnR P w K mg base CX0 3 a._law_handed (spHanded K) := ok_handed T
  have G__law_due : FnR P w K mg base CX0 2 a._law_due (spDue K) := ok_due T
  have G_pinit : FnR P w K mg base (CX P w) 3 a.Picture_init (spPicInitX K a.Picture a.BadPicture) := ok_pic_initX T
  have G_Picture_height := ok_height (P := P) (w := w) (base := base) T
  have G__law_sizes_right : FnG P w K mg base CX0 14 a._law_sizes_right (spSz Tb1 Tb2 Tb3) := ok_sizes_right T sb ne12 ne13 ne23 FC2 TB2
  have G__law_pixels_right : FnG P w K mg base CX0 14 a._law_pixels_right (spPx Tb1 Tb2 Tb3) := ok_pixels_right T sb ne12 ne13 ne23 FC3 TB3
  refine FC1.okG sc_law (fun _ _ _ _ _ _ us hl => match us, hl with | [_], _ => rfl) (fun vs H Q E h => by obtain ⟨sa, ns, rfl, _⟩ := h; rfl) (fun A outer s H vs Q E hr hg h => ?_)
  obtain ⟨sa, ns, rfl, hS, hns, hT1, hT2, hT3, k⟩ := h
  refine ⟨_, (pss_cons (ps_set (i := 1) sc_law.nd rfl (Or.inl rfl) (pe_callR G__law_pen (hr.mono (by decide)) T.m__law_pen T.k__law_pen pass0 (pa_cons (pv 0) pa_nil)))
      (pss_cons (ps_for PassesOwn.never rfl (pi_range1 rfl T.n_range (pa_cons pe_int pa_nil)) (pg_name (i := 2) sc_law.nd rfl (Or.inl rfl))
          (pss_cons (ps_set (i := 6) sc_law.nd rfl (Or.inr rfl) (pe_callR G__law_handed (hr.mono (by decide)) T.m__law_handed T.k__law_handed pass0 (pa_cons (pv 1) pa_nil)))
          (pss_cons (ps_par (i := 3) (j := 4) (by rfl) sc_law.nd rfl rfl (by decide) rfl rfl (pa_cons (pe_callR G__law_due (hr.mono (by decide)) T.m__law_due T.k__law_due pass0 (pa_cons (pv 6) pa_nil)) (pa_cons (pe_callB (call_reprQ sb hg hr.units) (by rfl) T.n_repr (by decide +kernel) (pa_cons (pv 6) pa_nil)) pa_nil)) (by rfl))
          (pss_cons (ps_set (i := 5) sc_law.nd rfl (Or.inl rfl) (pe_heard (k := 10) (TL := TLs Tb1 Tb2 Tb3) T rfl TB1 rfl (in_TL1 _ _ _) (un_TL1 ne12 ne13 ne23) (hr.mono (by decide)) (LamX.lamS_by (sc := defScope s_law) (by decide +kernel)) rfl (fun _ _ _ _ _ => rfl) (fun A outer s H E f c' hr' => pe_propR (pe_makeRR T.M_Picture G_pinit (hr'.mono (by decide)) T.m_Picture (passUp (takes_of rfl rfl rfl rfl)) (pa_cons (pv 6) pa_nil)) T.c_Picture.cl T.p_Picture_height G_Picture_height (hr'.mono (by decide)) pass0)))
          (pss_cons (ps_if (PW.pt (pw_or (pt_cmpR op_ne (pe_callB (call_reprQ sb hg hr.units) (by rfl) T.n_repr (by decide +kernel) (pa_cons (pv 5) pa_nil)) (pe_callB (call_reprQ sb hg hr.units) (by rfl) T.n_repr (by decide +kernel) (pa_cons (pe_ifExp (pt_cmpR op_isN (pv 3) pe_non (nomark _)) (pe_lst (pa_cons (pe_callB call_len_seq (by rfl) T.n_len (by decide +kernel) (pa_cons (pv 6) pa_nil)) pa_nil)) (pv 3)) pa_nil)) (nomark _)) (pw_or1 (pt_cmpR op_ne (pe_callB (call_reprQ sb hg hr.units) (by rfl) T.n_repr (by decide +kernel) (pa_cons (pv 6) pa_nil)) (pv 4) (nomark _)))))
              (pss_one (ps_ret pe_bl))
              pss_nil)
          (pss_one (ps_if (PW.pt (pw_or (pt_not (pt_val (pe_callG G__law_sizes_right (hr.mono (by decide)) (by exact hg) T.m__law_sizes_right T.k__law_sizes_right pass0 (pa_cons (pv 1) pa_nil)))) (pw_or1 (pt_not (pt_val (pe_callG G__law_pixels_right (hr.mono (by decide)) (by exact hg) T.m__law_pixels_right T.k__law_pixels_right pass0 (pa_cons (pv 1) pa_nil)))))))
              (pss_one (ps_ret pe_bl))
              pss_nil)))))))
      (pss_one (ps_ret pe_bl)))), ?_⟩
  simp only [tSeq, tIfS, tTest, tB, tAnd, tOr, tNot, tAndV, tOrV, tNotV, tIf, tOp, tUn, tChain, rEq, rNe, rI0, rI, rU, tCallR, tCons, tNil, tC, tVar, tRet, tRetN, tTup_k, tLst_k, tCB, tNext, tAsg, gName, gTup, gCons, gNil, tDrop, tPar, tFld, ClX.tCVal, tPropR, rBin, rBinT, rNeOwn, rSetL_k, gSub, tMakeK_k, tMethR, rInO, tDNewK_k, tYes, wipe, tMakeR_k, tSMeth, tSMethK, rMulS, decide_true, tNever, sFld, rIsiT, and_false, rListOf, rTupOf, rLenSeq, rIxL, rIxT, rIxS, rCat_k, rRep_k, rSlL_k, rSlS, rNewStrs_k, rAppend_k, tBM, tBM0, tM0, tM1, tSl, tNoPart, tPart, tLc_k, tFor_k, iList, iTup, iEnumT, iRng1, iRng2, iRng2L, iStr, L2.start, List.map, List.length_cons, List.length_nil, List.cons_append, List.nil_append, List.getElem?_cons_succ, List.getElem?_cons_zero, Option.some.injEq, V.int.injEq, V.bl.injEq, V.str.injEq, V.ref.injEq, exists_eq_left', exists_eq_left, and_assoc, exists_and_left, exists_eq, exists_eq', true_and, and_true, List.set_cons_zero, List.set_cons_succ, List.set, decide_eq_true_eq, Bool.not_eq_true', if_true, if_false, rIx, cx_K, nox_K, List.replicate_succ, List.replicate_zero, Nat.reduceSub, Bool.true_eq_false, Bool.false_eq_true, Nat.reduceAdd, List.cons.injEq, reduceCtorEq, false_and, false_or, or_false, tAug, rSetO, rJoin, rInDT, rRepT1]
  refine ⟨sa, ns, rfl, hS, hns, fun p c H1 s1 np P1 => ?_⟩
  have T1 : LamX.Tabs (TLs Tb1 Tb2 Tb3) H1 := fun q hq => by
    simp only [TLs, List.mem_cons, List.not_mem_nil, or_false] at hq
    rcases hq with rfl | rfl | rfl
    · exact LamX.TabS.nil (s1 _ _ hT1)
    · exact LamX.TabS.nil (s1 _ _ hT2)
    · exact LamX.TabS.nil (s1 _ _ hT3)
  simp only [tSeq, tIfS, tTest, tB, tAnd, tOr, tNot, tAndV, tOrV, tNotV, tIf, tOp, tUn, tChain, rEq, rNe, rI0, rI, rU, tCallR, tCons, tNil, tC, tVar, tRet, tRetN, tTup_k, tLst_k, tCB, tNext, tAsg, gName, gTup, gCons, gNil, tDrop, tPar, tFld, ClX.tCVal, tPropR, rBin, rBinT, rNeOwn, rSetL_k, gSub, tMakeK_k, tMethR, rInO, tDNewK_k, tYes, wipe, tMakeR_k, tSMeth, tSMethK, rMulS, decide_true, tNever, sFld, rIsiT, and_false, rListOf, rTupOf, rLenSeq, rIxL, rIxT, rIxS, rCat_k, rRep_k, rSlL_k, rSlS, rNewStrs_k, rAppend_k, tBM, tBM0, tM0, tM1, tSl, tNoPart, tPart, tLc_k, tFor_k, iList, iTup, iEnumT, iRng1, iRng2, iRng2L, iStr, L2.start, List.map, List.length_cons, List.length_nil, List.cons_append, List.nil_append, List.getElem?_cons_succ, List.getElem?_cons_zero, Option.some.injEq, V.int.injEq, V.bl.injEq, V.str.injEq, V.ref.injEq, exists_eq_left', exists_eq_left, and_assoc, exists_and_left, exists_eq, exists_eq', true_and, and_true, List.set_cons_zero, List.set_cons_succ, List.set, decide_eq_true_eq, Bool.not_eq_true', if_true, if_false, rIx, cx_K, nox_K, List.replicate_succ, List.replicate_zero, Nat.reduceSub, Bool.true_eq_false, Bool.false_eq_true, Nat.reduceAdd, List.cons.injEq, reduceCtorEq, false_and, false_or, or_false, tAug, rSetO, rJoin, rInDT, rRepT1]
  refine ⟨by decide, by decide, ?_⟩
  refine kFor.it walk_range (fun i σ H' => Pen H' p c ((i : Int) * 100) ∧ LamX.Tabs (TLs Tb1 Tb2 Tb3) H' ∧ ∃ v2 v3 v4 v5 v6, σ = [some (.ref sa), some (.ref p), v2, v3, v4, v5, v6]) ⟨P1.le (by simp), T1, _, _, _, _, _, rfl⟩ (fun _ _ _ _ _ => trivial) (fun i xv σ H2 H3 hi hP hY => ?_) fun σ H2 hP => ?_
  · obtain ⟨P2, T2, v2, v3, v4, v5, v6, rfl⟩ := hP
    obtain ⟨rfl, rfl⟩ := hY
    have hi : i < 8 := hi
    simp only [tSeq, tIfS, tTest, tB, tAnd, tOr, tNot, tAndV, tOrV, tNotV, tIf, tOp, tUn, tChain, rEq, rNe, rI0, rI, rU, tCallR, tCons, tNil, tC, tVar, tRet, tRetN, tTup_k, tLst_k, tCB, tNext, tAsg, gName, gTup, gCons, gNil, tDrop, tPar, tFld, ClX.tCVal, tPropR, rBin, rBinT, rNeOwn, rSetL_k, gSub, tMakeK_k, tMethR, rInO, tDNewK_k, tYes, wipe, tMakeR_k, tSMeth, tSMethK, rMulS, decide_true, tNever, sFld, rIsiT, and_false, rListOf, rTupOf, rLenSeq, rIxL, rIxT, rIxS, rCat_k, rRep_k, rSlL_k, rSlS, rNewStrs_k, rAppend_k, tBM, tBM0, tM0, tM1, tSl, tNoPart, tPart, tLc_k, tFor_k, iList, iTup, iEnumT, iRng1, iRng2, iRng2L, iStr, L2.start, List.map, List.length_cons, List.length_nil, List.cons_append, List.nil_append, List.getElem?_cons_succ, List.getElem?_cons_zero, Option.some.injEq, V.int.injEq, V.bl.injEq, V.str.injEq, V.ref.injEq, exists_eq_left', exists_eq_left, and_assoc, exists_and_left, exists_eq, exists_eq', true_and, and_true, List.set_cons_zero, List.set_cons_succ, List.set, decide_eq_true_eq, Bool.not_eq_true', if_true, if_false, rIx, cx_K, nox_K, List.replicate_succ, List.replicate_zero, Nat.reduceSub, Bool.true_eq_false, Bool.false_eq_true, Nat.reduceAdd, List.cons.injEq, reduceCtorEq, false_and, false_or, or_false, tAug, rSetO, rJoin, rInDT, rRepT1]
    refine ⟨p, c, _, rfl, P2, by omega, fun v H4 hv s4 P4 => ?_⟩
    have T4 := tabs_pen T2 P2 s4
    obtain ⟨dv, dv1, dv2, dv3, dvq⟩ := hv.data
    have rep : ∀ {H' : Hp} {Q' : VK}, LamX.ExtN H4 H' → Q' (.str dv.shown) H' → rReprQ K [v] H' Q' := fun x k => ⟨v, dv, rfl, dvq _ x, dv1, dv2, dv3, k⟩
    rcases hv.kind with hk | ⟨l, xs, rfl, hl, hlen, hx⟩
    · refine ⟨v, rfl, .inl ⟨hk, fun td H5 f5 => ?_⟩⟩
      have x5 := LamX.ExtN.of f5.same
      have P5 := P4.same f5.same
      have T5 := tabs_same T4 f5.same
      have ht5 := f5.at_
      refine rep x5 ⟨T5, fun H6 x6 T6 => ?_⟩
      simp only [TTh, tSeq, tIfS, tTest, tB, tAnd, tOr, tNot, tAndV, tOrV, tNotV, tIf, tOp, tUn, tChain, rEq, rNe, rI0, rI, rU, tCallR, tCons, tNil, tC, tVar, tRet, tRetN, tTup_k, tLst_k, tCB, tNext, tAsg, gName, gTup, gCons, gNil, tDrop, tPar, tFld, ClX.tCVal, tPropR, rBin, rBinT, rNeOwn, rSetL_k, gSub, tMakeK_k, tMethR, rInO, tDNewK_k, tYes, wipe, tMakeR_k, tSMeth, tSMethK, rMulS, decide_true, tNever, sFld, rIsiT, and_false, rListOf, rTupOf, rLenSeq, rIxL, rIxT, rIxS, rCat_k, rRep_k, rSlL_k, rSlS, rNewStrs_k, rAppend_k, tBM, tBM0, tM0, tM1, tSl, tNoPart, tPart, tLc_k, tFor_k, iList, iTup, iEnumT, iRng1, iRng2, iRng2L, iStr, L2.start, List.map, List.length_cons, List.length_nil, List.cons_append, List.nil_append, List.getElem?_cons_succ, List.getElem?_cons_zero, Option.some.injEq, V.int.injEq, V.bl.injEq, V.str.injEq, V.ref.injEq, exists_eq_left', exists_eq_left, and_assoc, exists_and_left, exists_eq, exists_eq', true_and, and_true, List.set_cons_zero, List.set_cons_succ, List.set, decide_eq_true_eq, Bool.not_eq_true', if_true, if_false, rIx, cx_K, nox_K, List.replicate_succ, List.replicate_zero, Nat.reduceSub, Bool.true_eq_false, Bool.false_eq_true, Nat.reduceAdd, List.cons.injEq, reduceCtorEq, false_and, false_or, or_false, tAug, rSetO, rJoin, rInDT, rRepT1]
      have hr2 : DataOf K H5 .non := DataOf.non
      refine kMake.mk fun x dx H7 s7 nx hx1 so => ⟨x, dx, v, rfl, hx1, .inl ⟨((hk.same f5.same).ext x6).same s7, fun H8 s8 ed ned => .inr (.inr (.inl ⟨rfl, ed, rfl, _, upd_same, _, rfl, kN.mk fun tq H9 f9 => ?_⟩))⟩⟩
      obtain ⟨dr, shr, dqr⟩ := hr2
      have sZ := ((s7.trans s8).trans (fresh_upd ned).same).trans f9.same
      have x6Z := LamX.ExtN.of sZ
      have xZ := (x5.trans x6).trans x6Z
      have PZ := (P5.ext x6).same sZ
      have TZ := tabs_same T6 sZ
      refine repr2 f9.at_ sh_picture shr (dqr _ (x6.trans x6Z)) ?_
      refine repr2 (sZ _ _ (x6 _ _ ht5 fun _ z => by cases z)) sh_picture shr (dqr _ (x6.trans x6Z)) ⟨rfl, ?_⟩
      rw [if_neg (by simp)]
      refine rep xZ ⟨rfl, ?_⟩
      rw [if_neg (by simp)]
      refine ⟨p, c, _, rfl, PZ, TZ, by omega, fun Ha ea Pa Ta => ⟨_, rfl, ?_⟩⟩
      rw [if_neg (by decide)]
      refine ⟨p, c, _, rfl, Pa, Ta, by omega, fun Hb eb Pb Tb => ⟨_, rfl, ?_⟩⟩
      rw [if_neg (by decide)]
      exact ⟨Pb.le (by push_cast; omega), Tb⟩
    · cases ed0 : dueX xs with
      | none =>
        have hd := ed0
        unfold dueX at hd
        by_cases hln : 1 ≤ xs.length ∧ xs.length ≤ 200
        · rw [if_pos hln] at hd
          have hw : wrongV xs = none := by
            cases e : wrongV xs with
            | none => rfl
            | some k => rw [e] at hd; cases hd
          refine ⟨_, rfl, .inr ⟨l, xs, rfl, hl, hlen, hx, .inl ⟨ed0, fun H5 s5 => ?_⟩⟩⟩
          have x5 := LamX.ExtN.of s5
          have P5 := P4.same s5
          have T5 := tabs_same T4 s5
          refine rep x5 ⟨T5, fun H6 x6 T6 => ?_⟩
          simp only [TTh, tSeq, tIfS, tTest, tB, tAnd, tOr, tNot, tAndV, tOrV, tNotV, tIf, tOp, tUn, tChain, rEq, rNe, rI0, rI, rU, tCallR, tCons, tNil, tC, tVar, tRet, tRetN, tTup_k, tLst_k, tCB, tNext, tAsg, gName, gTup, gCons, gNil, tDrop, tPar, tFld, ClX.tCVal, tPropR, rBin, rBinT, rNeOwn, rSetL_k, gSub, tMakeK_k, tMethR, rInO, tDNewK_k, tYes, wipe, tMakeR_k, tSMeth, tSMethK, rMulS, decide_true, tNever, sFld, rIsiT, and_false, rListOf, rTupOf, rLenSeq, rIxL, rIxT, rIxS, rCat_k, rRep_k, rSlL_k, rSlS, rNewStrs_k, rAppend_k, tBM, tBM0, tM0, tM1, tSl, tNoPart, tPart, tLc_k, tFor_k, iList, iTup, iEnumT, iRng1, iRng2, iRng2L, iStr, L2.start, List.map, List.length_cons, List.length_nil, List.cons_append, List.nil_append, List.getElem?_cons_succ, List.getElem?_cons_zero, Option.some.injEq, V.int.injEq, V.bl.injEq, V.str.injEq, V.ref.injEq, exists_eq_left', exists_eq_left, and_assoc, exists_and_left, exists_eq, exists_eq', true_and, and_true, List.set_cons_zero, List.set_cons_succ, List.set, decide_eq_true_eq, Bool.not_eq_true', if_true, if_false, rIx, cx_K, nox_K, List.replicate_succ, List.replicate_zero, Nat.reduceSub, Bool.true_eq_false, Bool.false_eq_true, Nat.reduceAdd, List.cons.injEq, reduceCtorEq, false_and, false_or, or_false, tAug, rSetO, rJoin, rInDT, rRepT1]
          refine newPicX ((hl.same s5).ext x6) hln.1 hln.2 (fun x h => ((hx x h).1.same s5).ext x6) hw fun x dx t H7 s7 h1 h2 => ?_
          refine ⟨x, rfl, dx, _, h1, dx, t, h1, _, h2, kNew.mk (by show 1 ≤ sizeLine; decide) fun l1 H8 f8 => ?_⟩
          have r1 : ∀ {H' : Hp} {l : Addr} {Q' : VK}, H' l = some (.lst [.int (xs.length : Nat)]) → Q' (.str (PyData.list [.int (xs.length : Nat)]).shown) H' → rReprQ K [.ref l] H' Q' := fun h k => by
            have si := Sh.int (i := ((xs.length : Nat) : Int)) (by omega)
            exact repr6 h (.cons (.int _) .nil) (fun d hd => by
              rw [List.mem_singleton.mp hd]
              exact ⟨si.s, by have := si.dp; omega, si.l, by have := si.w; omega⟩) (by show 1 ≤ 20; decide) k
          refine r1 f8.at_ ?_
          try rw [if_pos rfl]
          have sq : SqL K H8 l xs ∨ SqT K H8 l xs := ((((hl.same s5).ext x6).same s7).same f8.same).imp SqL.of fun h => .inl (.inl h)
          refine ⟨_, sq, kNew.mk (by show 1 ≤ sizeLine; decide) fun l2 H9 f9 => r1 f9.at_ ⟨rfl, ?_⟩⟩
          have sZ := (s7.trans f8.same).trans f9.same
          have xZ := (x5.trans x6).trans (LamX.ExtN.of sZ)
          have PZ := (P5.ext x6).same sZ
          have TZ := tabs_same T6 sZ
          rw [if_neg (by simp)]
          refine rep xZ ⟨rfl, ?_⟩
          rw [if_neg (by simp)]
          refine ⟨p, c, _, rfl, PZ, TZ, by omega, fun Ha ea Pa Ta => ⟨_, rfl, ?_⟩⟩
          rw [if_neg (by decide)]
          refine ⟨p, c, _, rfl, Pa, Ta, by omega, fun Hb eb Pb Tb => ⟨_, rfl, ?_⟩⟩
          rw [if_neg (by decide)]
          exact ⟨Pb.le (by push_cast; omega), Tb⟩
        · rw [if_neg hln] at hd
          cases hd
      | some r =>
        refine ⟨_, rfl, .inr ⟨l, xs, rfl, hl, hlen, hx, .inr ⟨r, ed0, fun td H5 s5 ht5 => ?_⟩⟩⟩
        have x5 := LamX.ExtN.of s5
        have P5 := P4.same s5
        have T5 := tabs_same T4 s5
        refine rep x5 ⟨T5, fun H6 x6 T6 => ?_⟩
        simp only [TTh, tSeq, tIfS, tTest, tB, tAnd, tOr, tNot, tAndV, tOrV, tNotV, tIf, tOp, tUn, tChain, rEq, rNe, rI0, rI, rU, tCallR, tCons, tNil, tC, tVar, tRet, tRetN, tTup_k, tLst_k, tCB, tNext, tAsg, gName, gTup, gCons, gNil, tDrop, tPar, tFld, ClX.tCVal, tPropR, rBin, rBinT, rNeOwn, rSetL_k, gSub, tMakeK_k, tMethR, rInO, tDNewK_k, tYes, wipe, tMakeR_k, tSMeth, tSMethK, rMulS, decide_true, tNever, sFld, rIsiT, and_false, rListOf, rTupOf, rLenSeq, rIxL, rIxT, rIxS, rCat_k, rRep_k, rSlL_k, rSlS, rNewStrs_k, rAppend_k, tBM, tBM0, tM0, tM1, tSl, tNoPart, tPart, tLc_k, tFor_k, iList, iTup, iEnumT, iRng1, iRng2, iRng2L, iStr, L2.start, List.map, List.length_cons, List.length_nil, List.cons_append, List.nil_append, List.getElem?_cons_succ, List.getElem?_cons_zero, Option.some.injEq, V.int.injEq, V.bl.injEq, V.str.injEq, V.ref.injEq, exists_eq_left', exists_eq_left, and_assoc, exists_and_left, exists_eq, exists_eq', true_and, and_true, List.set_cons_zero, List.set_cons_succ, List.set, decide_eq_true_eq, Bool.not_eq_true', if_true, if_false, rIx, cx_K, nox_K, List.replicate_succ, List.replicate_zero, Nat.reduceSub, Bool.true_eq_false, Bool.false_eq_true, Nat.reduceAdd, List.cons.injEq, reduceCtorEq, false_and, false_or, or_false, tAug, rSetO, rJoin, rInDT, rRepT1]
        have hd := ed0
        unfold dueX at hd
        by_cases hln : 1 ≤ xs.length ∧ xs.length ≤ 200
        · rw [if_pos hln] at hd
          obtain ⟨kk, hw, rfl⟩ : ∃ kk : Nat, wrongV xs = some kk ∧ r = .int (kk : Nat) := by
            cases e : wrongV xs with
            | none => rw [e] at hd; cases hd
            | some k => rw [e] at hd; cases hd; exact ⟨k, rfl, rfl⟩
          have hkk : kk < xs.length := by
            cases xs with
            | nil => cases hw
            | cons v0 r0 =>
              have hw : (v0 :: r0).findIdx? (fun v => !okV v0 v) = some kk := hw
              exact (List.findIdx?_eq_some_iff_getElem.mp hw).1
          have hr2 : DataOf K H5 (.int (kk : Nat)) := DataOf.int (by omega)
          refine kMake.mk fun x dx H7 s7 nx hx1 so => ⟨x, dx, .ref l, rfl, hx1, .inr ⟨l, xs, rfl, ((hl.same s5).ext x6).same s7, by omega, fun y hy => (((hx y hy).1.same s5).ext x6).same s7, .inr ⟨hln.1, hln.2, .inl ⟨kk, hw, fun H8 s8 ed ned => .inr (.inr (.inl ⟨rfl, ed, rfl, _, upd_same, _, rfl, kN.mk fun tq H9 f9 => ?_⟩))⟩⟩⟩⟩
          obtain ⟨dr, shr, dqr⟩ := hr2
          have sZ := ((s7.trans s8).trans (fresh_upd ned).same).trans f9.same
          have x6Z := LamX.ExtN.of sZ
          have xZ := (x5.trans x6).trans x6Z
          have PZ := (P5.ext x6).same sZ
          have TZ := tabs_same T6 sZ
          refine repr2 f9.at_ sh_picture shr (dqr _ (x6.trans x6Z)) ?_
          refine repr2 (sZ _ _ (x6 _ _ ht5 fun _ z => by cases z)) sh_picture shr (dqr _ (x6.trans x6Z)) ⟨rfl, ?_⟩
          rw [if_neg (by simp)]
          refine rep xZ ⟨rfl, ?_⟩
          rw [if_neg (by simp)]
          refine ⟨p, c, _, rfl, PZ, TZ, by omega, fun Ha ea Pa Ta => ⟨_, rfl, ?_⟩⟩
          rw [if_neg (by decide)]
          refine ⟨p, c, _, rfl, Pa, Ta, by omega, fun Hb eb Pb Tb => ⟨_, rfl, ?_⟩⟩
          rw [if_neg (by decide)]
          exact ⟨Pb.le (by push_cast; omega), Tb⟩
        · rw [if_neg hln] at hd
          cases hd
          have hr2 : DataOf K H5 .non := DataOf.non
          refine kMake.mk fun x dx H7 s7 nx hx1 so => ⟨x, dx, .ref l, rfl, hx1, .inr ⟨l, xs, rfl, ((hl.same s5).ext x6).same s7, by omega, fun y hy => (((hx y hy).1.same s5).ext x6).same s7, .inl ⟨hln, fun H8 s8 ed ned => .inr (.inr (.inl ⟨rfl, ed, rfl, _, upd_same, _, rfl, kN.mk fun tq H9 f9 => ?_⟩))⟩⟩⟩
          obtain ⟨dr, shr, dqr⟩ := hr2
          have sZ := ((s7.trans s8).trans (fresh_upd ned).same).trans f9.same
          have x6Z := LamX.ExtN.of sZ
          have xZ := (x5.trans x6).trans x6Z
          have PZ := (P5.ext x6).same sZ
          have TZ := tabs_same T6 sZ
          refine repr2 f9.at_ sh_picture shr (dqr _ (x6.trans x6Z)) ?_
          refine repr2 (sZ _ _ (x6 _ _ ht5 fun _ z => by cases z)) sh_picture shr (dqr _ (x6.trans x6Z)) ⟨rfl, ?_⟩
          rw [if_neg (by simp)]
          refine rep xZ ⟨rfl, ?_⟩
          rw [if_neg (by simp)]
          refine ⟨p, c, _, rfl, PZ, TZ, by omega, fun Ha ea Pa Ta => ⟨_, rfl, ?_⟩⟩
          rw [if_neg (by decide)]
          refine ⟨p, c, _, rfl, Pa, Ta, by omega, fun Hb eb Pb Tb => ⟨_, rfl, ?_⟩⟩
          rw [if_neg (by decide)]
          exact ⟨Pb.le (by push_cast; omega), Tb⟩
  · obtain ⟨P2, T2, v2, v3, v4, v5, v6, rfl⟩ := hP
    simp only [tSeq, tIfS, tTest, tB, tAnd, tOr, tNot, tAndV, tOrV, tNotV, tIf, tOp, tUn, tChain, rEq, rNe, rI0, rI, rU, tCallR, tCons, tNil, tC, tVar, tRet, tRetN, tTup_k, tLst_k, tCB, tNext, tAsg, gName, gTup, gCons, gNil, tDrop, tPar, tFld, ClX.tCVal, tPropR, rBin, rBinT, rNeOwn, rSetL_k, gSub, tMakeK_k, tMethR, rInO, tDNewK_k, tYes, wipe, tMakeR_k, tSMeth, tSMethK, rMulS, decide_true, tNever, sFld, rIsiT, and_false, rListOf, rTupOf, rLenSeq, rIxL, rIxT, rIxS, rCat_k, rRep_k, rSlL_k, rSlS, rNewStrs_k, rAppend_k, tBM, tBM0, tM0, tM1, tSl, tNoPart, tPart, tLc_k, tFor_k, iList, iTup, iEnumT, iRng1, iRng2, iRng2L, iStr, L2.start, List.map, List.length_cons, List.length_nil, List.cons_append, List.nil_append, List.getElem?_cons_succ, List.getElem?_cons_zero, Option.some.injEq, V.int.injEq, V.bl.injEq, V.str.injEq, V.ref.injEq, exists_eq_left', exists_eq_left, and_assoc, exists_and_left, exists_eq, exists_eq', true_and, and_true, List.set_cons_zero, List.set_cons_succ, List.set, decide_eq_true_eq, Bool.not_eq_true', if_true, if_false, rIx, cx_K, nox_K, List.replicate_succ, List.replicate_zero, Nat.reduceSub, Bool.true_eq_false, Bool.false_eq_true, Nat.reduceAdd, List.cons.injEq, reduceCtorEq, false_and, false_or, or_false, tAug, rSetO, rJoin, rInDT, rRepT1]
    exact k _
end
end Pf
end
section
namespace Pf
open PySem PySem.Spec PyProof.Rows L2 Ow StX

theorem fnt_mk {K : PySem.W.Frag} {x qual : Str} {st : Stmt} {f : Addr} {oc : Value} {od an : Option Addr} {osl : Array (Option Value)} {kV doc pm cdv ct : Value}
    (l : K.lookup f = some ⟨oc, od, .func (PySem.W.fnOf x qual (defArgs st) (defBody st) (defScope st) .none kV doc pm an cdv ct), osl⟩) (c : PySem.W.codeIn K cdv qual = true) (k : PySem.W.keepIn K (.ref f) = true) : FnT K x qual st [] f :=
  ⟨_, ⟨⟨oc, od, .none, kV, doc, pm, an, cdv, ct, osl, rfl, l, c, .inl ⟨rfl, rfl⟩, .inl rfl⟩, k⟩⟩
theorem fntD_mk {K : PySem.W.Frag} {x qual : Str} {st : Stmt} {f D : Addr} {oc : Value} {od an : Option Addr} {osl : Array (Option Value)} {kV doc pm cdv ct tc : Value} {td : Option Addr} {tn : Nat} {ts : Array (Option Value)} {its : List Value} {dvs : List V}
    (l : K.lookup f = some ⟨oc, od, .func (PySem.W.fnOf x qual (defArgs st) (defBody st) (defScope st) (.ref D) kV doc pm an cdv ct), osl⟩) (c : PySem.W.codeIn K cdv qual = true) (k : PySem.W.keepIn K (.ref f) = true)
    (t : K.lookup D = some ⟨tc, td, .seq its.toArray tn, ts⟩) (hd : dvs ≠ []) (v : Vals dvs its) : FnT K x qual st dvs f :=
  ⟨_, ⟨⟨oc, od, .ref D, kV, doc, pm, an, cdv, ct, osl, rfl, l, c, .inr ⟨hd, D, _, its, tn, rfl, t, rfl, v⟩, .inl rfl⟩, k⟩⟩
theorem fntD1_mk {K : PySem.W.Frag} {x qual : Str} {st : Stmt} {f D : Addr} {oc : Value} {od an : Option Addr} {osl : Array (Option Value)} {kV doc pm cdv ct tc u : Value} {td : Option Addr} {tn : Nat} {ts : Array (Option Value)} {dv : V}
    (l : K.lookup f = some ⟨oc, od, .func (PySem.W.fnOf x qual (defArgs st) (defBody st) (defScope st) (.ref D) kV doc pm an cdv ct), osl⟩) (c : PySem.W.codeIn K cdv qual = true) (k : PySem.W.keepIn K (.ref f) = true)
    (t : K.lookup D = some ⟨tc, td, .seq #[u] tn, ts⟩) (v : RelV dv u) : FnT K x qual st [dv] f := fntD_mk (its := [u]) l c k t (by simp) (.cons v .nil)
theorem propR_mk {K : PySem.W.Frag} {C p g : Addr} {f : Str} {rest : List Value} (h1 : PySem.W.findIn K (.ref C) f = some (some (.ref p))) (h2 : PySem.W.specialIn K (.ref p) "__get__" = some (some (.builtin "property.__get__")))
    (h3 : PySem.W.takesIn K (.ref p) = some true) (h4 : PySem.W.recIn K p "property" = some (.ref g :: rest)) : PropR K C f p g := ⟨h1, h2, h3, rest, h4⟩
theorem mro2_mk {K : PySem.W.Frag} {C : Addr} {cd : PySem.ClassData} (h : PySem.W.clsIn K C = some cd) (m : (cd.mro == [.ref C, .type "object"]) = true) : mro2 K C = true := by
  unfold mro2
  rw [h]
  exact m

theorem errF_mk {K : PySem.W.Frag} {C g : Addr} {nm q N bs bm sn sub ab col dd k0 k1 k2 k3 k5} (l : K.lookup C = some (excClassObj nm q C N bs bm true sn sub ab col dd k0 k1 k2 k3 k5 "ValueError.__new__")) (r : PySem.HandSPX.refsVE bm = true)
    (s : PySem.W.findIn K (.ref C) "__setattr__" = some (some (.builtin "object.__setattr__"))) (x : PySem.W.subIn K (.ref C) (.type "BaseException") = some true) (t : PySem.W.typeIn K (.ref C) = some (.type "type")) (k : PySem.W.keepIn K (.ref C) = true)
    (i : PySem.W.findIn K (.ref C) "__init__" = some (some (.ref g))) (f : PySem.W.typeIn K (.ref g) = some (.type "function")) : ErrF K C g := ⟨⟨⟨_, _, _, _, _, _, _, _, _, _, _, _, _, _, _, l, r⟩, s, x, t, k⟩, i, f⟩
theorem all_mk {l : PySem.W.OpenLaw} {w : World} {K : PySem.W.Frag} {h : Heap} {mg : Str → Option Value} {fa : Addr} (X : K.In h) (G : h.Ns mainGlobals mg) (hfa : mg "law" = some (.ref fa))
    {x__law_pen x__law_draw x__law_pick x_BadColour_init x_BadDeed_init x_BadPicture_init x_BadPixel_init x_BadSize_init x_is_int x_is_int_in x_is_colour x_check_colour x_check_side x_check_axis x_is_row x_wrong_row x_is_pixel x_check_pixel x_Picture_init x_Picture_plain x_Picture_height x_Picture_getitem x_Picture_area x_Picture_flipped x_Picture_region x_Picture_way x__law_heard x__law_is_line x__law_due x__law_handed x__law_odd_whole x__law_sizes_right x__law_pixels_right x_law x_Picture x_pr_Picture_height x_BadColour x_BadDeed x_BadPicture x_BadPixel x_BadSize x_HoldError x_sm_plain x_AXES c1 Tb1 c2 Tb2 c3 Tb3 : Addr}
    (n_len : PySem.W.nsIn K mainGlobals "len" = some none)
    (n_int : PySem.W.nsIn K mainGlobals "int" = some none)
    (n_abs : PySem.W.nsIn K mainGlobals "abs" = some none)
    (n_list : PySem.W.nsIn K mainGlobals "list" = some none)
    (n_range : PySem.W.nsIn K mainGlobals "range" = some none)
    (n_repr : PySem.W.nsIn K mainGlobals "repr" = some none)
    (n_tuple : PySem.W.nsIn K mainGlobals "tuple" = some none)
    (n_str : PySem.W.nsIn K mainGlobals "str" = some none)
    (n_isinstance : PySem.W.nsIn K mainGlobals "isinstance" = some none)
    (n_bool : PySem.W.nsIn K mainGlobals "bool" = some none)
    (n_enumerate : PySem.W.nsIn K mainGlobals "enumerate" = some none)
    (m__law_pen : PySem.W.nsIn K mainGlobals "_law_pen" = some (some (.ref x__law_pen)))
    (m__law_draw : PySem.W.nsIn K mainGlobals "_law_draw" = some (some (.ref x__law_draw)))
    (m__law_pick : PySem.W.nsIn K mainGlobals "_law_pick" = some (some (.ref x__law_pick)))
    (m_is_int : PySem.W.nsIn K mainGlobals "is_int" = some (some (.ref x_is_int)))
    (m_is_int_in : PySem.W.nsIn K mainGlobals "is_int_in" = some (some (.ref x_is_int_in)))
    (m_is_colour : PySem.W.nsIn K mainGlobals "is_colour" = some (some (.ref x_is_colour)))
    (m_check_colour : PySem.W.nsIn K mainGlobals "check_colour" = some (some (.ref x_check_colour)))
    (m_check_side : PySem.W.nsIn K mainGlobals "check_side" = some (some (.ref x_check_side)))
    (m_check_axis : PySem.W.nsIn K mainGlobals "check_axis" = some (some (.ref x_check_axis)))
    (m_is_row : PySem.W.nsIn K mainGlobals "is_row" = some (some (.ref x_is_row)))
    (m_wrong_row : PySem.W.nsIn K mainGlobals "wrong_row" = some (some (.ref x_wrong_row)))
    (m_is_pixel : PySem.W.nsIn K mainGlobals "is_pixel" = some (some (.ref x_is_pixel)))
    (m_check_pixel : PySem.W.nsIn K mainGlobals "check_pixel" = some (some (.ref x_check_pixel)))
    (m__law_heard : PySem.W.nsIn K mainGlobals "_law_heard" = some (some (.ref x__law_heard)))
    (m__law_is_line : PySem.W.nsIn K mainGlobals "_law_is_line" = some (some (.ref x__law_is_line)))
    (m__law_due : PySem.W.nsIn K mainGlobals "_law_due" = some (some (.ref x__law_due)))
    (m__law_handed : PySem.W.nsIn K mainGlobals "_law_handed" = some (some (.ref x__law_handed)))
    (m__law_odd_whole : PySem.W.nsIn K mainGlobals "_law_odd_whole" = some (some (.ref x__law_odd_whole)))
    (m__law_sizes_right : PySem.W.nsIn K mainGlobals "_law_sizes_right" = some (some (.ref x__law_sizes_right)))
    (m__law_pixels_right : PySem.W.nsIn K mainGlobals "_law_pixels_right" = some (some (.ref x__law_pixels_right)))
    (m_law : PySem.W.nsIn K mainGlobals "law" = some (some (.ref x_law)))
    (m_Picture : PySem.W.nsIn K mainGlobals "Picture" = some (some (.ref x_Picture)))
    (c_Picture : ClsF K x_Picture)
    (M_Picture : Mk K x_Picture x_Picture_init)
    (a_Picture__rows : PySem.W.findIn K (.ref x_Picture) "_rows" = some none)
    (p_Picture_height : PropR K x_Picture "height" x_pr_Picture_height x_Picture_height)
    (o_Picture_getitem : PySem.W.findIn K (.ref x_Picture) "__getitem__" = some (some (.ref x_Picture_getitem)))
    (f_Picture_getitem : PySem.W.isFn K (.ref x_Picture_getitem) = true)
    (cr_Picture : ClX.CRead K x_Picture (.type "type"))
    (cv_MOST : ∃ u, ClX.CVal K x_Picture (.type "type") "MOST" (.int 200) u)
    (fi_getitem : PySem.W.fnIn K x_Picture_getitem = true)
    (sm_plain : SMet K x_Picture (.type "type") "plain" x_sm_plain x_Picture_plain)
    (mt_area : Meth K x_Picture "area" x_Picture_area)
    (mt_flipped : Meth K x_Picture "flipped" x_Picture_flipped)
    (mt_region : Meth K x_Picture "region" x_Picture_region)
    (mt_way : Meth K x_Picture "way" x_Picture_way)
    (m_BadColour : PySem.W.nsIn K mainGlobals "BadColour" = some (some (.ref x_BadColour)))
    (e_BadColour : ErrF K x_BadColour x_BadColour_init)
    (a_BadColour_value : PySem.W.findIn K (.ref x_BadColour) "value" = some none)
    (m_BadDeed : PySem.W.nsIn K mainGlobals "BadDeed" = some (some (.ref x_BadDeed)))
    (e_BadDeed : ErrF K x_BadDeed x_BadDeed_init)
    (a_BadDeed_part : PySem.W.findIn K (.ref x_BadDeed) "part" = some none)
    (m_BadPicture : PySem.W.nsIn K mainGlobals "BadPicture" = some (some (.ref x_BadPicture)))
    (e_BadPicture : ErrF K x_BadPicture x_BadPicture_init)
    (a_BadPicture_row : PySem.W.findIn K (.ref x_BadPicture) "row" = some none)
    (m_BadPixel : PySem.W.nsIn K mainGlobals "BadPixel" = some (some (.ref x_BadPixel)))
    (e_BadPixel : ErrF K x_BadPixel x_BadPixel_init)
    (a_BadPixel_x : PySem.W.findIn K (.ref x_BadPixel) "x" = some none)
    (a_BadPixel_y : PySem.W.findIn K (.ref x_BadPixel) "y" = some none)
    (m_BadSize : PySem.W.nsIn K mainGlobals "BadSize" = some (some (.ref x_BadSize)))
    (e_BadSize : ErrF K x_BadSize x_BadSize_init)
    (a_BadSize_part : PySem.W.findIn K (.ref x_BadSize) "part" = some none)
    (m_HoldError : PySem.W.nsIn K mainGlobals "HoldError" = some (some (.ref x_HoldError)))
    (xf_BadColour : XfC K x_BadColour)
    (xc_BadColour : ExcC K x_BadColour)
    (xi_BadColour : PySem.W.isClsIn K x_BadColour = true)
    (xt_BadColour : PySem.W.typeIn K (.ref x_BadColour) = some (.type "type"))
    (xm_BadColour_HoldError : PySem.W.exmOne K (.ref x_BadColour) (.ref x_HoldError) = some true)
    (xm_BadColour_BadColour : PySem.W.exmOne K (.ref x_BadColour) (.ref x_BadColour) = some true)
    (xs_BadColour_BadDeed : PySem.W.subIn K (.ref x_BadColour) (.ref x_BadDeed) = some false)
    (xn_BadColour_BadDeed : ((.ref x_BadColour : Value) == .ref x_BadDeed) = false)
    (xs_BadColour_BadPicture : PySem.W.subIn K (.ref x_BadColour) (.ref x_BadPicture) = some false)
    (xn_BadColour_BadPicture : ((.ref x_BadColour : Value) == .ref x_BadPicture) = false)
    (xs_BadColour_BadPixel : PySem.W.subIn K (.ref x_BadColour) (.ref x_BadPixel) = some false)
    (xn_BadColour_BadPixel : ((.ref x_BadColour : Value) == .ref x_BadPixel) = false)
    (xs_BadColour_BadSize : PySem.W.subIn K (.ref x_BadColour) (.ref x_BadSize) = some false)
    (xn_BadColour_BadSize : ((.ref x_BadColour : Value) == .ref x_BadSize) = false)
    (xf_BadDeed : XfC K x_BadDeed)
    (xc_BadDeed : ExcC K x_BadDeed)
    (xi_BadDeed : PySem.W.isClsIn K x_BadDeed = true)
    (xt_BadDeed : PySem.W.typeIn K (.ref x_BadDeed) = some (.type "type"))
    (xm_BadDeed_HoldError : PySem.W.exmOne K (.ref x_BadDeed) (.ref x_HoldError) = some true)
    (xm_BadDeed_BadDeed : PySem.W.exmOne K (.ref x_BadDeed) (.ref x_BadDeed) = some true)
    (xs_BadDeed_BadColour : PySem.W.subIn K (.ref x_BadDeed) (.ref x_BadColour) = some false)
    (xn_BadDeed_BadColour : ((.ref x_BadDeed : Value) == .ref x_BadColour) = false)
    (xs_BadDeed_BadPicture : PySem.W.subIn K (.ref x_BadDeed) (.ref x_BadPicture) = some false)
    (xn_BadDeed_BadPicture : ((.ref x_BadDeed : Value) == .ref x_BadPicture) = false)
    (xs_BadDeed_BadPixel : PySem.W.subIn K (.ref x_BadDeed) (.ref x_BadPixel) = some false)
    (xn_BadDeed_BadPixel : ((.ref x_BadDeed : Value) == .ref x_BadPixel) = false)
    (xs_BadDeed_BadSize : PySem.W.subIn K (.ref x_BadDeed) (.ref x_BadSize) = some false)
    (xn_BadDeed_BadSize : ((.ref x_BadDeed : Value) == .ref x_BadSize) = false)
    (xf_BadPicture : XfC K x_BadPicture)
    (xc_BadPicture : ExcC K x_BadPicture)
    (xi_BadPicture : PySem.W.isClsIn K x_BadPicture = true)
    (xt_BadPicture : PySem.W.typeIn K (.ref x_BadPicture) = some (.type "type"))
    (xm_BadPicture_HoldError : PySem.W.exmOne K (.ref x_BadPicture) (.ref x_HoldError) = some true)
    (xm_BadPicture_BadPicture : PySem.W.exmOne K (.ref x_BadPicture) (.ref x_BadPicture) = some true)
    (xs_BadPicture_BadColour : PySem.W.subIn K (.ref x_BadPicture) (.ref x_BadColour) = some false)
    (xn_BadPicture_BadColour : ((.ref x_BadPicture : Value) == .ref x_BadColour) = false)
    (xs_BadPicture_BadDeed : PySem.W.subIn K (.ref x_BadPicture) (.ref x_BadDeed) = some false)
    (xn_BadPicture_BadDeed : ((.ref x_BadPicture : Value) == .ref x_BadDeed) = false)
    (xs_BadPicture_BadPixel : PySem.W.subIn K (.ref x_BadPicture) (.ref x_BadPixel) = some false)
    (xn_BadPicture_BadPixel : ((.ref x_BadPicture : Value) == .ref x_BadPixel) = false)
    (xs_BadPicture_BadSize : PySem.W.subIn K (.ref x_BadPicture) (.ref x_BadSize) = some false)
    (xn_BadPicture_BadSize : ((.ref x_BadPicture : Value) == .ref x_BadSize) = false)
    (xf_BadPixel : XfC K x_BadPixel)
    (xc_BadPixel : ExcC K x_BadPixel)
    (xi_BadPixel : PySem.W.isClsIn K x_BadPixel = true)
    (xt_BadPixel : PySem.W.typeIn K (.ref x_BadPixel) = some (.type "type"))
    (xm_BadPixel_HoldError : PySem.W.exmOne K (.ref x_BadPixel) (.ref x_HoldError) = some true)
    (xm_BadPixel_BadPixel : PySem.W.exmOne K (.ref x_BadPixel) (.ref x_BadPixel) = some true)
    (xs_BadPixel_BadColour : PySem.W.subIn K (.ref x_BadPixel) (.ref x_BadColour) = some false)
    (xn_BadPixel_BadColour : ((.ref x_BadPixel : Value) == .ref x_BadColour) = false)
    (xs_BadPixel_BadDeed : PySem.W.subIn K (.ref x_BadPixel) (.ref x_BadDeed) = some false)
    (xn_BadPixel_BadDeed : ((.ref x_BadPixel : Value) == .ref x_BadDeed) = false)
    (xs_BadPixel_BadPicture : PySem.W.subIn K (.ref x_BadPixel) (.ref x_BadPicture) = some false)
    (xn_BadPixel_BadPicture : ((.ref x_BadPixel : Value) == .ref x_BadPicture) = false)
    (xs_BadPixel_BadSize : PySem.W.subIn K (.ref x_BadPixel) (.ref x_BadSize) = some false)
    (xn_BadPixel_BadSize : ((.ref x_BadPixel : Value) == .ref x_BadSize) = false)
    (xf_BadSize : XfC K x_BadSize)
    (xc_BadSize : ExcC K x_BadSize)
    (xi_BadSize : PySem.W.isClsIn K x_BadSize = true)
    (xt_BadSize : PySem.W.typeIn K (.ref x_BadSize) = some (.type "type"))
    (xm_BadSize_HoldError : PySem.W.exmOne K (.ref x_BadSize) (.ref x_HoldError) = some true)
    (xm_BadSize_BadSize : PySem.W.exmOne K (.ref x_BadSize) (.ref x_BadSize) = some true)
    (xs_BadSize_BadColour : PySem.W.subIn K (.ref x_BadSize) (.ref x_BadColour) = some false)
    (xn_BadSize_BadColour : ((.ref x_BadSize : Value) == .ref x_BadColour) = false)
    (xs_BadSize_BadDeed : PySem.W.subIn K (.ref x_BadSize) (.ref x_BadDeed) = some false)
    (xn_BadSize_BadDeed : ((.ref x_BadSize : Value) == .ref x_BadDeed) = false)
    (xs_BadSize_BadPicture : PySem.W.subIn K (.ref x_BadSize) (.ref x_BadPicture) = some false)
    (xn_BadSize_BadPicture : ((.ref x_BadSize : Value) == .ref x_BadPicture) = false)
    (xs_BadSize_BadPixel : PySem.W.subIn K (.ref x_BadSize) (.ref x_BadPixel) = some false)
    (xn_BadSize_BadPixel : ((.ref x_BadSize : Value) == .ref x_BadPixel) = false)
    (m_AXES : PySem.W.nsIn K mainGlobals "AXES" = some (some (.ref x_AXES)))
    (xmn_BadDeed_BadColour : PySem.W.exmOne K (.ref x_BadDeed) (.ref x_BadColour) = some false)
    (xmn_BadPicture_BadColour : PySem.W.exmOne K (.ref x_BadPicture) (.ref x_BadColour) = some false)
    (xmn_BadPicture_BadDeed : PySem.W.exmOne K (.ref x_BadPicture) (.ref x_BadDeed) = some false)
    (xmn_BadPixel_BadColour : PySem.W.exmOne K (.ref x_BadPixel) (.ref x_BadColour) = some false)
    (xmn_BadPixel_BadDeed : PySem.W.exmOne K (.ref x_BadPixel) (.ref x_BadDeed) = some false)
    (xmn_BadPixel_BadPicture : PySem.W.exmOne K (.ref x_BadPixel) (.ref x_BadPicture) = some false)
    (xmn_BadSize_BadColour : PySem.W.exmOne K (.ref x_BadSize) (.ref x_BadColour) = some false)
    (xmn_BadSize_BadDeed : PySem.W.exmOne K (.ref x_BadSize) (.ref x_BadDeed) = some false)
    (xmn_BadSize_BadPicture : PySem.W.exmOne K (.ref x_BadSize) (.ref x_BadPicture) = some false)
    (xmn_BadSize_BadPixel : PySem.W.exmOne K (.ref x_BadSize) (.ref x_BadPixel) = some false)
    (t_AXES : ∃ (o : Obj) (its : Array Value) (n : Nat), K.lookup x_AXES = some o ∧ o.cls = .type "tuple" ∧ o.data = .seq its n ∧ its.size ≤ sizeLine ∧ Vals [.str "across", .str "down"] its.toList)
    (d__law_pen : FnT K "_law_pen" "_law_pen" s__law_pen [] x__law_pen)
    (k__law_pen : PySem.W.keepIn K (.ref x__law_pen) = true)
    (d__law_draw : FnT K "_law_draw" "_law_draw" s__law_draw [] x__law_draw)
    (k__law_draw : PySem.W.keepIn K (.ref x__law_draw) = true)
    (d__law_pick : FnT K "_law_pick" "_law_pick" s__law_pick [] x__law_pick)
    (k__law_pick : PySem.W.keepIn K (.ref x__law_pick) = true)
    (d_BadColour_init : FnT K "__init__" "BadColour.__init__" s_BadColour_init [] x_BadColour_init)
    (d_BadDeed_init : FnT K "__init__" "BadDeed.__init__" s_BadDeed_init [] x_BadDeed_init)
    (d_BadPicture_init : FnT K "__init__" "BadPicture.__init__" s_BadPicture_init [] x_BadPicture_init)
    (d_BadPixel_init : FnT K "__init__" "BadPixel.__init__" s_BadPixel_init [] x_BadPixel_init)
    (d_BadSize_init : FnT K "__init__" "BadSize.__init__" s_BadSize_init [] x_BadSize_init)
    (d_is_int : FnT K "is_int" "is_int" s_is_int [] x_is_int)
    (k_is_int : PySem.W.keepIn K (.ref x_is_int) = true)
    (d_is_int_in : FnT K "is_int_in" "is_int_in" s_is_int_in [] x_is_int_in)
    (k_is_int_in : PySem.W.keepIn K (.ref x_is_int_in) = true)
    (d_is_colour : FnT K "is_colour" "is_colour" s_is_colour [] x_is_colour)
    (k_is_colour : PySem.W.keepIn K (.ref x_is_colour) = true)
    (d_check_colour : FnT K "check_colour" "check_colour" s_check_colour [] x_check_colour)
    (k_check_colour : PySem.W.keepIn K (.ref x_check_colour) = true)
    (d_check_side : FnT K "check_side" "check_side" s_check_side [] x_check_side)
    (k_check_side : PySem.W.keepIn K (.ref x_check_side) = true)
    (d_check_axis : FnT K "check_axis" "check_axis" s_check_axis [] x_check_axis)
    (k_check_axis : PySem.W.keepIn K (.ref x_check_axis) = true)
    (d_is_row : FnT K "is_row" "is_row" s_is_row [] x_is_row)
    (k_is_row : PySem.W.keepIn K (.ref x_is_row) = true)
    (d_wrong_row : FnT K "wrong_row" "wrong_row" s_wrong_row [] x_wrong_row)
    (k_wrong_row : PySem.W.keepIn K (.ref x_wrong_row) = true)
    (d_is_pixel : FnT K "is_pixel" "is_pixel" s_is_pixel [] x_is_pixel)
    (k_is_pixel : PySem.W.keepIn K (.ref x_is_pixel) = true)
    (d_check_pixel : FnT K "check_pixel" "check_pixel" s_check_pixel [] x_check_pixel)
    (k_check_pixel : PySem.W.keepIn K (.ref x_check_pixel) = true)
    (d_Picture_init : FnT K "__init__" "Picture.__init__" s_Picture_init [] x_Picture_init)
    (d_Picture_plain : FnT K "plain" "Picture.plain" s_Picture_plain [.int 0] x_Picture_plain)
    (d_Picture_height : FnT K "height" "Picture.height" s_Picture_height [] x_Picture_height)
    (d_Picture_getitem : FnT K "__getitem__" "Picture.__getitem__" s_Picture_getitem [] x_Picture_getitem)
    (d_Picture_area : FnT K "area" "Picture.area" s_Picture_area [] x_Picture_area)
    (d_Picture_flipped : FnT K "flipped" "Picture.flipped" s_Picture_flipped [] x_Picture_flipped)
    (d_Picture_region : FnT K "region" "Picture.region" s_Picture_region [] x_Picture_region)
    (d_Picture_way : FnT K "way" "Picture.way" s_Picture_way [] x_Picture_way)
    (d__law_heard : FnT K "_law_heard" "_law_heard" s__law_heard [] x__law_heard)
    (k__law_heard : PySem.W.keepIn K (.ref x__law_heard) = true)
    (d__law_is_line : FnT K "_law_is_line" "_law_is_line" s__law_is_line [] x__law_is_line)
    (k__law_is_line : PySem.W.keepIn K (.ref x__law_is_line) = true)
    (d__law_due : FnT K "_law_due" "_law_due" s__law_due [] x__law_due)
    (k__law_due : PySem.W.keepIn K (.ref x__law_due) = true)
    (d__law_handed : FnT K "_law_handed" "_law_handed" s__law_handed [] x__law_handed)
    (k__law_handed : PySem.W.keepIn K (.ref x__law_handed) = true)
    (d__law_odd_whole : FnT K "_law_odd_whole" "_law_odd_whole" s__law_odd_whole [] x__law_odd_whole)
    (k__law_odd_whole : PySem.W.keepIn K (.ref x__law_odd_whole) = true)
    (d__law_sizes_right : FnT K "_law_sizes_right" "_law_sizes_right" s__law_sizes_right [] x__law_sizes_right)
    (k__law_sizes_right : PySem.W.keepIn K (.ref x__law_sizes_right) = true)
    (d__law_pixels_right : FnT K "_law_pixels_right" "_law_pixels_right" s__law_pixels_right [] x__law_pixels_right)
    (k__law_pixels_right : PySem.W.keepIn K (.ref x__law_pixels_right) = true)
    (d_law : FnT K "law" "law" s_law [] x_law)
    (k_law : PySem.W.keepIn K (.ref x_law) = true)
    (FC1 : FnC K "law" "law" s_law x_law c1)
    (CT1 : PySem.W.CodeHd h c1 Tb1)
    (nT1 : List.lookup Tb1 K = none)
    (eT1 : h.get? Tb1 = some { cls := .none, data := .fields #[] })
    (FC2 : FnC K "_law_sizes_right" "_law_sizes_right" s__law_sizes_right x__law_sizes_right c2)
    (CT2 : PySem.W.CodeHd h c2 Tb2)
    (nT2 : List.lookup Tb2 K = none)
    (eT2 : h.get? Tb2 = some { cls := .none, data := .fields #[] })
    (FC3 : FnC K "_law_pixels_right" "_law_pixels_right" s__law_pixels_right x__law_pixels_right c3)
    (CT3 : PySem.W.CodeHd h c3 Tb3)
    (nT3 : List.lookup Tb3 K = none)
    (eT3 : h.get? Tb3 = some { cls := .none, data := .fields #[] })
    (ne12 : Tb1 ≠ Tb2)
    (ne13 : Tb1 ≠ Tb3)
    (ne23 : Tb2 ≠ Tb3)
    : LawTL l w K 15 63 mg fa h := by
  have e := hfa.symm.trans (PySem.W.mg_of X G m_law)
  have e2 : x_law = fa := by
    cases e
    rfl
  subst e2
  have T : Txt K mg ⟨x__law_pen, x__law_draw, x__law_pick, x_BadColour_init, x_BadDeed_init, x_BadPicture_init, x_BadPixel_init, x_BadSize_init, x_is_int, x_is_int_in, x_is_colour, x_check_colour, x_check_side, x_check_axis, x_is_row, x_wrong_row, x_is_pixel, x_check_pixel, x_Picture_init, x_Picture_plain, x_Picture_height, x_Picture_getitem, x_Picture_area, x_Picture_flipped, x_Picture_region, x_Picture_way, x__law_heard, x__law_is_line, x__law_due, x__law_handed, x__law_odd_whole, x__law_sizes_right, x__law_pixels_right, x_law, x_Picture, x_pr_Picture_height, x_BadColour, x_BadDeed, x_BadPicture, x_BadPixel, x_BadSize, x_HoldError, x_sm_plain, x_AXES⟩ :=
    { n_len := PySem.W.mg_none_of X G n_len,
      n_int := PySem.W.mg_none_of X G n_int,
      n_abs := PySem.W.mg_none_of X G n_abs,
      n_list := PySem.W.mg_none_of X G n_list,
      n_range := PySem.W.mg_none_of X G n_range,
      n_repr := PySem.W.mg_none_of X G n_repr,
      n_tuple := PySem.W.mg_none_of X G n_tuple,
      n_str := PySem.W.mg_none_of X G n_str,
      n_isinstance := PySem.W.mg_none_of X G n_isinstance,
      n_bool := PySem.W.mg_none_of X G n_bool,
      n_enumerate := PySem.W.mg_none_of X G n_enumerate,
      d__law_pen := d__law_pen,
      m__law_pen := PySem.W.mg_of X G m__law_pen,
      k__law_pen := k__law_pen,
      d__law_draw := d__law_draw,
      m__law_draw := PySem.W.mg_of X G m__law_draw,
      k__law_draw := k__law_draw,
      d__law_pick := d__law_pick,
      m__law_pick := PySem.W.mg_of X G m__law_pick,
      k__law_pick := k__law_pick,
      d_BadColour_init := d_BadColour_init,
      d_BadDeed_init := d_BadDeed_init,
      d_BadPicture_init := d_BadPicture_init,
      d_BadPixel_init := d_BadPixel_init,
      d_BadSize_init := d_BadSize_init,
      d_is_int := d_is_int,
      m_is_int := PySem.W.mg_of X G m_is_int,
      k_is_int := k_is_int,
      d_is_int_in := d_is_int_in,
      m_is_int_in := PySem.W.mg_of X G m_is_int_in,
      k_is_int_in := k_is_int_in,
      d_is_colour := d_is_colour,
      m_is_colour := PySem.W.mg_of X G m_is_colour,
      k_is_colour := k_is_colour,
      d_check_colour := d_check_colour,
      m_check_colour := PySem.W.mg_of X G m_check_colour,
      k_check_colour := k_check_colour,
      d_check_side := d_check_side,
      m_check_side := PySem.W.mg_of X G m_check_side,
      k_check_side := k_check_side,
      d_check_axis := d_check_axis,
      m_check_axis := PySem.W.mg_of X G m_check_axis,
      k_check_axis := k_check_axis,
      d_is_row := d_is_row,
      m_is_row := PySem.W.mg_of X G m_is_row,
      k_is_row := k_is_row,
      d_wrong_row := d_wrong_row,
      m_wrong_row := PySem.W.mg_of X G m_wrong_row,
      k_wrong_row := k_wrong_row,
      d_is_pixel := d_is_pixel,
      m_is_pixel := PySem.W.mg_of X G m_is_pixel,
      k_is_pixel := k_is_pixel,
      d_check_pixel := d_check_pixel,
      m_check_pixel := PySem.W.mg_of X G m_check_pixel,
      k_check_pixel := k_check_pixel,
      d_Picture_init := d_Picture_init,
      d_Picture_plain := d_Picture_plain,
      d_Picture_height := d_Picture_height,
      d_Picture_getitem := d_Picture_getitem,
      d_Picture_area := d_Picture_area,
      d_Picture_flipped := d_Picture_flipped,
      d_Picture_region := d_Picture_region,
      d_Picture_way := d_Picture_way,
      d__law_heard := d__law_heard,
      m__law_heard := PySem.W.mg_of X G m__law_heard,
      k__law_heard := k__law_heard,
      d__law_is_line := d__law_is_line,
      m__law_is_line := PySem.W.mg_of X G m__law_is_line,
      k__law_is_line := k__law_is_line,
      d__law_due := d__law_due,
      m__law_due := PySem.W.mg_of X G m__law_due,
      k__law_due := k__law_due,
      d__law_handed := d__law_handed,
      m__law_handed := PySem.W.mg_of X G m__law_handed,
      k__law_handed := k__law_handed,
      d__law_odd_whole := d__law_odd_whole,
      m__law_odd_whole := PySem.W.mg_of X G m__law_odd_whole,
      k__law_odd_whole := k__law_odd_whole,
      d__law_sizes_right := d__law_sizes_right,
      m__law_sizes_right := PySem.W.mg_of X G m__law_sizes_right,
      k__law_sizes_right := k__law_sizes_right,
      d__law_pixels_right := d__law_pixels_right,
      m__law_pixels_right := PySem.W.mg_of X G m__law_pixels_right,
      k__law_pixels_right := k__law_pixels_right,
      d_law := d_law,
      m_law := PySem.W.mg_of X G m_law,
      k_law := k_law,
      m_Picture := PySem.W.mg_of X G m_Picture,
      c_Picture := c_Picture,
      M_Picture := M_Picture,
      a_Picture__rows := a_Picture__rows,
      p_Picture_height := p_Picture_height,
      o_Picture_getitem := o_Picture_getitem,
      f_Picture_getitem := f_Picture_getitem,
      cr_Picture := cr_Picture,
      cv_MOST := cv_MOST,
      fi_getitem := fi_getitem,
      sm_plain := sm_plain,
      mt_area := mt_area,
      mt_flipped := mt_flipped,
      mt_region := mt_region,
      mt_way := mt_way,
      m_HoldError := PySem.W.mg_of X G m_HoldError,
      xf_BadColour := xf_BadColour,
      xc_BadColour := xc_BadColour,
      xi_BadColour := xi_BadColour,
      xt_BadColour := xt_BadColour,
      xm_BadColour_HoldError := xm_BadColour_HoldError,
      xm_BadColour_BadColour := xm_BadColour_BadColour,
      xs_BadColour_BadDeed := xs_BadColour_BadDeed,
      xn_BadColour_BadDeed := xn_BadColour_BadDeed,
      xs_BadColour_BadPicture := xs_BadColour_BadPicture,
      xn_BadColour_BadPicture := xn_BadColour_BadPicture,
      xs_BadColour_BadPixel := xs_BadColour_BadPixel,
      xn_BadColour_BadPixel := xn_BadColour_BadPixel,
      xs_BadColour_BadSize := xs_BadColour_BadSize,
      xn_BadColour_BadSize := xn_BadColour_BadSize,
      xf_BadDeed := xf_BadDeed,
      xc_BadDeed := xc_BadDeed,
      xi_BadDeed := xi_BadDeed,
      xt_BadDeed := xt_BadDeed,
      xm_BadDeed_HoldError := xm_BadDeed_HoldError,
      xm_BadDeed_BadDeed := xm_BadDeed_BadDeed,
      xs_BadDeed_BadColour := xs_BadDeed_BadColour,
      xn_BadDeed_BadColour := xn_BadDeed_BadColour,
      xs_BadDeed_BadPicture := xs_BadDeed_BadPicture,
      xn_BadDeed_BadPicture := xn_BadDeed_BadPicture,
      xs_BadDeed_BadPixel := xs_BadDeed_BadPixel,
      xn_BadDeed_BadPixel := xn_BadDeed_BadPixel,
      xs_BadDeed_BadSize := xs_BadDeed_BadSize,
      xn_BadDeed_BadSize := xn_BadDeed_BadSize,
      xf_BadPicture := xf_BadPicture,
      xc_BadPicture := xc_BadPicture,
      xi_BadPicture := xi_BadPicture,
      xt_BadPicture := xt_BadPicture,
      xm_BadPicture_HoldError := xm_BadPicture_HoldError,
      xm_BadPicture_BadPicture := xm_BadPicture_BadPicture,
      xs_BadPicture_BadColour := xs_BadPicture_BadColour,
      xn_BadPicture_BadColour := xn_BadPicture_BadColour,
      xs_BadPicture_BadDeed := xs_BadPicture_BadDeed,
      xn_BadPicture_BadDeed := xn_BadPicture_BadDeed,
      xs_BadPicture_BadPixel := xs_BadPicture_BadPixel,
      xn_BadPicture_BadPixel := xn_BadPicture_BadPixel,
      xs_BadPicture_BadSize := xs_BadPicture_BadSize,
      xn_BadPicture_BadSize := xn_BadPicture_BadSize,
      xf_BadPixel := xf_BadPixel,
      xc_BadPixel := xc_BadPixel,
      xi_BadPixel := xi_BadPixel,
      xt_BadPixel := xt_BadPixel,
      xm_BadPixel_HoldError := xm_BadPixel_HoldError,
      xm_BadPixel_BadPixel := xm_BadPixel_BadPixel,
      xs_BadPixel_BadColour := xs_BadPixel_BadColour,
      xn_BadPixel_BadColour := xn_BadPixel_BadColour,
      xs_BadPixel_BadDeed := xs_BadPixel_BadDeed,
      xn_BadPixel_BadDeed := xn_BadPixel_BadDeed,
      xs_BadPixel_BadPicture := xs_BadPixel_BadPicture,
      xn_BadPixel_BadPicture := xn_BadPixel_BadPicture,
      xs_BadPixel_BadSize := xs_BadPixel_BadSize,
      xn_BadPixel_BadSize := xn_BadPixel_BadSize,
      xf_BadSize := xf_BadSize,
      xc_BadSize := xc_BadSize,
      xi_BadSize := xi_BadSize,
      xt_BadSize := xt_BadSize,
      xm_BadSize_HoldError := xm_BadSize_HoldError,
      xm_BadSize_BadSize := xm_BadSize_BadSize,
      xs_BadSize_BadColour := xs_BadSize_BadColour,
      xn_BadSize_BadColour := xn_BadSize_BadColour,
      xs_BadSize_BadDeed := xs_BadSize_BadDeed,
      xn_BadSize_BadDeed := xn_BadSize_BadDeed,
      xs_BadSize_BadPicture := xs_BadSize_BadPicture,
      xn_BadSize_BadPicture := xn_BadSize_BadPicture,
      xs_BadSize_BadPixel := xs_BadSize_BadPixel,
      xn_BadSize_BadPixel := xn_BadSize_BadPixel,
      m_AXES := PySem.W.mg_of X G m_AXES,
      xmn_BadDeed_BadColour := xmn_BadDeed_BadColour,
      xmn_BadPicture_BadColour := xmn_BadPicture_BadColour,
      xmn_BadPicture_BadDeed := xmn_BadPicture_BadDeed,
      xmn_BadPixel_BadColour := xmn_BadPixel_BadColour,
      xmn_BadPixel_BadDeed := xmn_BadPixel_BadDeed,
      xmn_BadPixel_BadPicture := xmn_BadPixel_BadPicture,
      xmn_BadSize_BadColour := xmn_BadSize_BadColour,
      xmn_BadSize_BadDeed := xmn_BadSize_BadDeed,
      xmn_BadSize_BadPicture := xmn_BadSize_BadPicture,
      xmn_BadSize_BadPixel := xmn_BadSize_BadPixel,
      t_AXES := t_AXES,
      m_BadColour := PySem.W.mg_of X G m_BadColour,
      e_BadColour := e_BadColour,
      a_BadColour_value := a_BadColour_value,
      m_BadDeed := PySem.W.mg_of X G m_BadDeed,
      e_BadDeed := e_BadDeed,
      a_BadDeed_part := a_BadDeed_part,
      m_BadPicture := PySem.W.mg_of X G m_BadPicture,
      e_BadPicture := e_BadPicture,
      a_BadPicture_row := a_BadPicture_row,
      m_BadPixel := PySem.W.mg_of X G m_BadPixel,
      e_BadPixel := e_BadPixel,
      a_BadPixel_x := a_BadPixel_x,
      a_BadPixel_y := a_BadPixel_y,
      m_BadSize := PySem.W.mg_of X G m_BadSize,
      e_BadSize := e_BadSize,
      a_BadSize_part := a_BadSize_part }
  refine ⟨[(c1, Tb1), (c2, Tb2), (c3, Tb3)], spLaw K Tb1 Tb2 Tb3, ⟨?_, ?_, ?_⟩, fun H a ns hl hT hS => ⟨a, ns, rfl, hS, hl, hT (c1, Tb1) (by simp), hT (c2, Tb2) (by simp), hT (c3, Tb3) (by simp), fun _ => rfl⟩, fun base _ _ TB sb => ?_⟩
  · exact fun q hq => by
      simp only [List.mem_cons, List.not_mem_nil, or_false] at hq
      rcases hq with rfl | rfl | rfl
      · exact eT1
      · exact eT2
      · exact eT3
  · exact fun q hq => by
      simp only [List.mem_cons, List.not_mem_nil, or_false] at hq
      rcases hq with rfl | rfl | rfl
      · exact nT1
      · exact nT2
      · exact nT3
  · exact fun q hq => by
      simp only [List.mem_cons, List.not_mem_nil, or_false] at hq
      rcases hq with rfl | rfl | rfl
      · exact CT1
      · exact CT2
      · exact CT3
  have TB1 := TB (c1, Tb1) (by simp)
  have TB2 := TB (c2, Tb2) (by simp)
  have TB3 := TB (c3, Tb3) (by simp)
  exact ok_law T sb ne12 ne13 ne23 FC1 TB1 FC2 TB2 FC3 TB3
end Pf
end
open PySem PySem.W PyProof.Rows
set_option maxRecDepth 100000 in
set_option maxHeartbeats 0 in
theorem PySem.Challenge.cw_heldfloods_k18_pictures_refused_holds : PySem.Challenge.rw_heldfloods_k18_pictures_refused.Holds := by
  w_on; o_law; k_head; (case hw => w_witness2)
  k_fill
  refine Ow.walk_ofTL (l := PySem.Challenge.rw_heldfloods_k18_pictures_refused) (k := 15) (n := 63) (by decide +kernel) rfl (by decide) rfl ⟨rfl, by decide, by decide⟩ (fun w h Y => PySem.W.km_in_of Y) ?F
  case F =>
    intro w mg fa h Y KX G hmg
    refine' Pf.all_mk KX G hmg ?n_len ?n_int ?n_abs ?n_list ?n_range ?n_repr ?n_tuple ?n_str ?n_isinstance ?n_bool ?n_enumerate ?m__law_pen ?m__law_draw ?m__law_pick ?m_is_int ?m_is_int_in ?m_is_colour ?m_check_colour ?m_check_side ?m_check_axis ?m_is_row ?m_wrong_row ?m_is_pixel ?m_check_pixel ?m__law_heard ?m__law_is_line ?m__law_due ?m__law_handed ?m__law_odd_whole ?m__law_sizes_right ?m__law_pixels_right ?m_law ?m_Picture ?c_Picture ?M_Picture ?a_Picture__rows ?p_Picture_height ?o_Picture_getitem ?f_Picture_getitem ?cr_Picture ?cv_MOST ?fi_getitem ?sm_plain ?mt_area ?mt_flipped ?mt_region ?mt_way ?m_BadColour ?e_BadColour ?a_BadColour_value ?m_BadDeed ?e_BadDeed ?a_BadDeed_part ?m_BadPicture ?e_BadPicture ?a_BadPicture_row ?m_BadPixel ?e_BadPixel ?a_BadPixel_x ?a_BadPixel_y ?m_BadSize ?e_BadSize ?a_BadSize_part ?m_HoldError ?xf_BadColour ?xc_BadColour ?xi_BadColour ?xt_BadColour ?xm_BadColour_HoldError ?xm_BadColour_BadColour ?xs_BadColour_BadDeed ?xn_BadColour_BadDeed ?xs_BadColour_BadPicture ?xn_BadColour_BadPicture ?xs_BadColour_BadPixel ?xn_BadColour_BadPixel ?xs_BadColour_BadSize ?xn_BadColour_BadSize ?xf_BadDeed ?xc_BadDeed ?xi_BadDeed ?xt_BadDeed ?xm_BadDeed_HoldError ?xm_BadDeed_BadDeed ?xs_BadDeed_BadColour ?xn_BadDeed_BadColour ?xs_BadDeed_BadPicture ?xn_BadDeed_BadPicture ?xs_BadDeed_BadPixel ?xn_BadDeed_BadPixel ?xs_BadDeed_BadSize ?xn_BadDeed_BadSize ?xf_BadPicture ?xc_BadPicture ?xi_BadPicture ?xt_BadPicture ?xm_BadPicture_HoldError ?xm_BadPicture_BadPicture ?xs_BadPicture_BadColour ?xn_BadPicture_BadColour ?xs_BadPicture_BadDeed ?xn_BadPicture_BadDeed ?xs_BadPicture_BadPixel ?xn_BadPicture_BadPixel ?xs_BadPicture_BadSize ?xn_BadPicture_BadSize ?xf_BadPixel ?xc_BadPixel ?xi_BadPixel ?xt_BadPixel ?xm_BadPixel_HoldError ?xm_BadPixel_BadPixel ?xs_BadPixel_BadColour ?xn_BadPixel_BadColour ?xs_BadPixel_BadDeed ?xn_BadPixel_BadDeed ?xs_BadPixel_BadPicture ?xn_BadPixel_BadPicture ?xs_BadPixel_BadSize ?xn_BadPixel_BadSize ?xf_BadSize ?xc_BadSize ?xi_BadSize ?xt_BadSize ?xm_BadSize_HoldError ?xm_BadSize_BadSize ?xs_BadSize_BadColour ?xn_BadSize_BadColour ?xs_BadSize_BadDeed ?xn_BadSize_BadDeed ?xs_BadSize_BadPicture ?xn_BadSize_BadPicture ?xs_BadSize_BadPixel ?xn_BadSize_BadPixel ?m_AXES ?xmn_BadDeed_BadColour ?xmn_BadPicture_BadColour ?xmn_BadPicture_BadDeed ?xmn_BadPixel_BadColour ?xmn_BadPixel_BadDeed ?xmn_BadPixel_BadPicture ?xmn_BadSize_BadColour ?xmn_BadSize_BadDeed ?xmn_BadSize_BadPicture ?xmn_BadSize_BadPixel ?t_AXES ?d__law_pen ?k__law_pen ?d__law_draw ?k__law_draw ?d__law_pick ?k__law_pick ?d_BadColour_init ?d_BadDeed_init ?d_BadPicture_init ?d_BadPixel_init ?d_BadSize_init ?d_is_int ?k_is_int ?d_is_int_in ?k_is_int_in ?d_is_colour ?k_is_colour ?d_check_colour ?k_check_colour ?d_check_side ?k_check_side ?d_check_axis ?k_check_axis ?d_is_row ?k_is_row ?d_wrong_row ?k_wrong_row ?d_is_pixel ?k_is_pixel ?d_check_pixel ?k_check_pixel ?d_Picture_init ?d_Picture_plain ?d_Picture_height ?d_Picture_getitem ?d_Picture_area ?d_Picture_flipped ?d_Picture_region ?d_Picture_way ?d__law_heard ?k__law_heard ?d__law_is_line ?k__law_is_line ?d__law_due ?k__law_due ?d__law_handed ?k__law_handed ?d__law_odd_whole ?k__law_odd_whole ?d__law_sizes_right ?k__law_sizes_right ?d__law_pixels_right ?k__law_pixels_right ?d_law ?k_law ?FC1 ?CT1 ?nT1 ?eT1 ?FC2 ?CT2 ?nT2 ?eT2 ?FC3 ?CT3 ?nT3 ?eT3 ?ne12 ?ne13 ?ne23
    (case n_len => k_is)
    (case n_int => k_is)
    (case n_abs => k_is)
    (case n_list => k_is)
    (case n_range => k_is)
    (case n_repr => k_is)
    (case n_tuple => k_is)
    (case n_str => k_is)
    (case n_isinstance => k_is)
    (case n_bool => k_is)
    (case n_enumerate => k_is)
    (case m__law_pen => k_is)
    (case m__law_draw => k_is)
    (case m__law_pick => k_is)
    (case m_is_int => k_is)
    (case m_is_int_in => k_is)
    (case m_is_colour => k_is)
    (case m_check_colour => k_is)
    (case m_check_side => k_is)
    (case m_check_axis => k_is)
    (case m_is_row => k_is)
    (case m_wrong_row => k_is)
    (case m_is_pixel => k_is)
    (case m_check_pixel => k_is)
    (case m__law_heard => k_is)
    (case m__law_is_line => k_is)
    (case m__law_due => k_is)
    (case m__law_handed => k_is)
    (case m__law_odd_whole => k_is)
    (case m__law_sizes_right => k_is)
    (case m__law_pixels_right => k_is)
    (case m_law => k_is)
    (case m_Picture => k_is)
    (case c_Picture => (refine' ⟨⟨?_, ?_, ?_, ?_⟩, ?_, ?_, ?_, ?_, ?_, ?_⟩ <;> k_is))
    (case M_Picture => (refine' ⟨?a, ?b, ?c, ?d⟩; (case a => k_is); (case b => k_is); (case c => k_is); (case d => k_is)))
    (case a_Picture__rows => k_is)
    (case p_Picture_height => (refine' Pf.propR_mk ?a ?b ?c ?d; (case a => k_is); (case b => k_is); (case c => k_is); (case d => k_is)))
    (case o_Picture_getitem => k_is)
    (case f_Picture_getitem => k_is)
    (case cr_Picture => (refine' ⟨?a, ?b⟩; (case a => k_is); (case b => k_is)))
    (case cv_MOST => (refine' ⟨_, ⟨?a, ?b⟩⟩; (case a => k_is); (case b => exact ⟨_, rfl⟩)))
    (case fi_getitem => k_is)
    (case sm_plain => (refine' Ow.smet_mk ?a ?b ?c ?d ?e ?f ?g; (case a => k_is); (case b => k_is); (case c => k_is); (case d => rfl); (case e => k_is); (case f => k_is); (case g => k_is)))
    (case mt_area => (refine' ⟨?a, ?b, ?c⟩; (case a => k_is); (case b => k_is); (case c => k_is)))
    (case mt_flipped => (refine' ⟨?a, ?b, ?c⟩; (case a => k_is); (case b => k_is); (case c => k_is)))
    (case mt_region => (refine' ⟨?a, ?b, ?c⟩; (case a => k_is); (case b => k_is); (case c => k_is)))
    (case mt_way => (refine' ⟨?a, ?b, ?c⟩; (case a => k_is); (case b => k_is); (case c => k_is)))
    (case m_BadColour => k_is)
    (case e_BadColour => (refine' Pf.errF_mk ?l ?r ?s ?x ?t ?k ?i ?f; (case l => k_is); (case r => rfl); (case s => k_is); (case x => k_is); (case t => k_is); (case k => k_is); (case i => k_is); (case f => k_is)))
    (case a_BadColour_value => k_is)
    (case m_BadDeed => k_is)
    (case e_BadDeed => (refine' Pf.errF_mk ?l ?r ?s ?x ?t ?k ?i ?f; (case l => k_is); (case r => rfl); (case s => k_is); (case x => k_is); (case t => k_is); (case k => k_is); (case i => k_is); (case f => k_is)))
    (case a_BadDeed_part => k_is)
    (case m_BadPicture => k_is)
    (case e_BadPicture => (refine' Pf.errF_mk ?l ?r ?s ?x ?t ?k ?i ?f; (case l => k_is); (case r => rfl); (case s => k_is); (case x => k_is); (case t => k_is); (case k => k_is); (case i => k_is); (case f => k_is)))
    (case a_BadPicture_row => k_is)
    (case m_BadPixel => k_is)
    (case e_BadPixel => (refine' Pf.errF_mk ?l ?r ?s ?x ?t ?k ?i ?f; (case l => k_is); (case r => rfl); (case s => k_is); (case x => k_is); (case t => k_is); (case k => k_is); (case i => k_is); (case f => k_is)))
    (case a_BadPixel_x => k_is)
    (case a_BadPixel_y => k_is)
    (case m_BadSize => k_is)
    (case e_BadSize => (refine' Pf.errF_mk ?l ?r ?s ?x ?t ?k ?i ?f; (case l => k_is); (case r => rfl); (case s => k_is); (case x => k_is); (case t => k_is); (case k => k_is); (case i => k_is); (case f => k_is)))
    (case a_BadSize_part => k_is)
    (case m_HoldError => k_is)
    (case xf_BadColour => (refine' ⟨?a, ?b, ?c, ?d⟩; (case a => k_is); (case b => k_is); (case c => k_is); (case d => k_is)))
    (case xc_BadColour => (refine' ⟨?a, ?b, ?c, ?d, ?e, ?f, ?g, ?h⟩; (case a => k_is); (case b => k_is); (case c => k_is); (case d => k_is); (case e => k_is); (case f => k_is); (case g => k_is); (case h => k_is)))
    (case xi_BadColour => k_is)
    (case xt_BadColour => k_is)
    (case xm_BadColour_HoldError => (refine' PySem.W.exm_ref ?a ?b ?c ?d; (case a => k_is); (case b => k_is); (case c => k_is); (case d => k_is)))
    (case xm_BadColour_BadColour => (refine' PySem.W.exm_ref ?a ?b ?c ?d; (case a => k_is); (case b => k_is); (case c => k_is); (case d => k_is)))
    (case xs_BadColour_BadDeed => k_is)
    (case xn_BadColour_BadDeed => first | rfl | decide)
    (case xs_BadColour_BadPicture => k_is)
    (case xn_BadColour_BadPicture => first | rfl | decide)
    (case xs_BadColour_BadPixel => k_is)
    (case xn_BadColour_BadPixel => first | rfl | decide)
    (case xs_BadColour_BadSize => k_is)
    (case xn_BadColour_BadSize => first | rfl | decide)
    (case xf_BadDeed => (refine' ⟨?a, ?b, ?c, ?d⟩; (case a => k_is); (case b => k_is); (case c => k_is); (case d => k_is)))
    (case xc_BadDeed => (refine' ⟨?a, ?b, ?c, ?d, ?e, ?f, ?g, ?h⟩; (case a => k_is); (case b => k_is); (case c => k_is); (case d => k_is); (case e => k_is); (case f => k_is); (case g => k_is); (case h => k_is)))
    (case xi_BadDeed => k_is)
    (case xt_BadDeed => k_is)
    (case xm_BadDeed_HoldError => (refine' PySem.W.exm_ref ?a ?b ?c ?d; (case a => k_is); (case b => k_is); (case c => k_is); (case d => k_is)))
    (case xm_BadDeed_BadDeed => (refine' PySem.W.exm_ref ?a ?b ?c ?d; (case a => k_is); (case b => k_is); (case c => k_is); (case d => k_is)))
    (case xs_BadDeed_BadColour => k_is)
    (case xn_BadDeed_BadColour => first | rfl | decide)
    (case xs_BadDeed_BadPicture => k_is)
    (case xn_BadDeed_BadPicture => first | rfl | decide)
    (case xs_BadDeed_BadPixel => k_is)
    (case xn_BadDeed_BadPixel => first | rfl | decide)
    (case xs_BadDeed_BadSize => k_is)
    (case xn_BadDeed_BadSize => first | rfl | decide)
    (case xf_BadPicture => (refine' ⟨?a, ?b, ?c, ?d⟩; (case a => k_is); (case b => k_is); (case c => k_is); (case d => k_is)))
    (case xc_BadPicture => (refine' ⟨?a, ?b, ?c, ?d, ?e, ?f, ?g, ?h⟩; (case a => k_is); (case b => k_is); (case c => k_is); (case d => k_is); (case e => k_is); (case f => k_is); (case g => k_is); (case h => k_is)))
    (case xi_BadPicture => k_is)
    (case xt_BadPicture => k_is)
    (case xm_BadPicture_HoldError => (refine' PySem.W.exm_ref ?a ?b ?c ?d; (case a => k_is); (case b => k_is); (case c => k_is); (case d => k_is)))
    (case xm_BadPicture_BadPicture => (refine' PySem.W.exm_ref ?a ?b ?c ?d; (case a => k_is); (case b => k_is); (case c => k_is); (case d => k_is)))
    (case xs_BadPicture_BadColour => k_is)
    (case xn_BadPicture_BadColour => first | rfl | decide)
    (case xs_BadPicture_BadDeed => k_is)
    (case xn_BadPicture_BadDeed => first | rfl | decide)
    (case xs_BadPicture_BadPixel => k_is)
    (case xn_BadPicture_BadPixel => first | rfl | decide)
    (case xs_BadPicture_BadSize => k_is)
    (case xn_BadPicture_BadSize => first | rfl | decide)
    (case xf_BadPixel => (refine' ⟨?a, ?b, ?c, ?d⟩; (case a => k_is); (case b => k_is); (case c => k_is); (case d => k_is)))
    (case xc_BadPixel => (refine' ⟨?a, ?b, ?c, ?d, ?e, ?f, ?g, ?h⟩; (case a => k_is); (case b => k_is); (case c => k_is); (case d => k_is); (case e => k_is); (case f => k_is); (case g => k_is); (case h => k_is)))
    (case xi_BadPixel => k_is)
    (case xt_BadPixel => k_is)
    (case xm_BadPixel_HoldError => (refine' PySem.W.exm_ref ?a ?b ?c ?d; (case a => k_is); (case b => k_is); (case c => k_is); (case d => k_is)))
    (case xm_BadPixel_BadPixel => (refine' PySem.W.exm_ref ?a ?b ?c ?d; (case a => k_is); (case b => k_is); (case c => k_is); (case d => k_is)))
    (case xs_BadPixel_BadColour => k_is)
    (case xn_BadPixel_BadColour => first | rfl | decide)
    (case xs_BadPixel_BadDeed => k_is)
    (case xn_BadPixel_BadDeed => first | rfl | decide)
    (case xs_BadPixel_BadPicture => k_is)
    (case xn_BadPixel_BadPicture => first | rfl | decide)
    (case xs_BadPixel_BadSize => k_is)
    (case xn_BadPixel_BadSize => first | rfl | decide)
    (case xf_BadSize => (refine' ⟨?a, ?b, ?c, ?d⟩; (case a => k_is); (case b => k_is); (case c => k_is); (case d => k_is)))
    (case xc_BadSize => (refine' ⟨?a, ?b, ?c, ?d, ?e, ?f, ?g, ?h⟩; (case a => k_is); (case b => k_is); (case c => k_is); (case d => k_is); (case e => k_is); (case f => k_is); (case g => k_is); (case h => k_is)))
    (case xi_BadSize => k_is)
    (case xt_BadSize => k_is)
    (case xm_BadSize_HoldError => (refine' PySem.W.exm_ref ?a ?b ?c ?d; (case a => k_is); (case b => k_is); (case c => k_is); (case d => k_is)))
    (case xm_BadSize_BadSize => (refine' PySem.W.exm_ref ?a ?b ?c ?d; (case a => k_is); (case b => k_is); (case c => k_is); (case d => k_is)))
    (case xs_BadSize_BadColour => k_is)
    (case xn_BadSize_BadColour => first | rfl | decide)
    (case xs_BadSize_BadDeed => k_is)
    (case xn_BadSize_BadDeed => first | rfl | decide)
    (case xs_BadSize_BadPicture => k_is)
    (case xn_BadSize_BadPicture => first | rfl | decide)
    (case xs_BadSize_BadPixel => k_is)
    (case xn_BadSize_BadPixel => first | rfl | decide)
    (case m_AXES => k_is)
    (case xmn_BadDeed_BadColour => (refine' PySem.W.exm_ref ?a ?b ?c ?d; (case a => k_is); (case b => k_is); (case c => k_is); (case d => k_is)))
    (case xmn_BadPicture_BadColour => (refine' PySem.W.exm_ref ?a ?b ?c ?d; (case a => k_is); (case b => k_is); (case c => k_is); (case d => k_is)))
    (case xmn_BadPicture_BadDeed => (refine' PySem.W.exm_ref ?a ?b ?c ?d; (case a => k_is); (case b => k_is); (case c => k_is); (case d => k_is)))
    (case xmn_BadPixel_BadColour => (refine' PySem.W.exm_ref ?a ?b ?c ?d; (case a => k_is); (case b => k_is); (case c => k_is); (case d => k_is)))
    (case xmn_BadPixel_BadDeed => (refine' PySem.W.exm_ref ?a ?b ?c ?d; (case a => k_is); (case b => k_is); (case c => k_is); (case d => k_is)))
    (case xmn_BadPixel_BadPicture => (refine' PySem.W.exm_ref ?a ?b ?c ?d; (case a => k_is); (case b => k_is); (case c => k_is); (case d => k_is)))
    (case xmn_BadSize_BadColour => (refine' PySem.W.exm_ref ?a ?b ?c ?d; (case a => k_is); (case b => k_is); (case c => k_is); (case d => k_is)))
    (case xmn_BadSize_BadDeed => (refine' PySem.W.exm_ref ?a ?b ?c ?d; (case a => k_is); (case b => k_is); (case c => k_is); (case d => k_is)))
    (case xmn_BadSize_BadPicture => (refine' PySem.W.exm_ref ?a ?b ?c ?d; (case a => k_is); (case b => k_is); (case c => k_is); (case d => k_is)))
    (case xmn_BadSize_BadPixel => (refine' PySem.W.exm_ref ?a ?b ?c ?d; (case a => k_is); (case b => k_is); (case c => k_is); (case d => k_is)))
    (case t_AXES => (refine' Pf.tup2_mk ?l ?v; (case l => k_is); (case v => exact .cons ⟨_, rfl⟩ (.cons ⟨_, rfl⟩ .nil))))
    (case d__law_pen => (refine' Pf.fnt_mk ?l ?c ?k; (case l => k_is); (case c => k_is); (case k => k_is)))
    (case k__law_pen => k_is)
    (case d__law_draw => (refine' Pf.fnt_mk ?l ?c ?k; (case l => k_is); (case c => k_is); (case k => k_is)))
    (case k__law_draw => k_is)
    (case d__law_pick => (refine' Pf.fnt_mk ?l ?c ?k; (case l => k_is); (case c => k_is); (case k => k_is)))
    (case k__law_pick => k_is)
    (case d_BadColour_init => (refine' Pf.fnt_mk ?l ?c ?k; (case l => k_is); (case c => k_is); (case k => k_is)))
    (case d_BadDeed_init => (refine' Pf.fnt_mk ?l ?c ?k; (case l => k_is); (case c => k_is); (case k => k_is)))
    (case d_BadPicture_init => (refine' Pf.fnt_mk ?l ?c ?k; (case l => k_is); (case c => k_is); (case k => k_is)))
    (case d_BadPixel_init => (refine' Pf.fnt_mk ?l ?c ?k; (case l => k_is); (case c => k_is); (case k => k_is)))
    (case d_BadSize_init => (refine' Pf.fnt_mk ?l ?c ?k; (case l => k_is); (case c => k_is); (case k => k_is)))
    (case d_is_int => (refine' Pf.fnt_mk ?l ?c ?k; (case l => k_is); (case c => k_is); (case k => k_is)))
    (case k_is_int => k_is)
    (case d_is_int_in => (refine' Pf.fnt_mk ?l ?c ?k; (case l => k_is); (case c => k_is); (case k => k_is)))
    (case k_is_int_in => k_is)
    (case d_is_colour => (refine' Pf.fnt_mk ?l ?c ?k; (case l => k_is); (case c => k_is); (case k => k_is)))
    (case k_is_colour => k_is)
    (case d_check_colour => (refine' Pf.fnt_mk ?l ?c ?k; (case l => k_is); (case c => k_is); (case k => k_is)))
    (case k_check_colour => k_is)
    (case d_check_side => (refine' Pf.fnt_mk ?l ?c ?k; (case l => k_is); (case c => k_is); (case k => k_is)))
    (case k_check_side => k_is)
    (case d_check_axis => (refine' Pf.fnt_mk ?l ?c ?k; (case l => k_is); (case c => k_is); (case k => k_is)))
    (case k_check_axis => k_is)
    (case d_is_row => (refine' Pf.fnt_mk ?l ?c ?k; (case l => k_is); (case c => k_is); (case k => k_is)))
    (case k_is_row => k_is)
    (case d_wrong_row => (refine' Pf.fnt_mk ?l ?c ?k; (case l => k_is); (case c => k_is); (case k => k_is)))
    (case k_wrong_row => k_is)
    (case d_is_pixel => (refine' Pf.fnt_mk ?l ?c ?k; (case l => k_is); (case c => k_is); (case k => k_is)))
    (case k_is_pixel => k_is)
    (case d_check_pixel => (refine' Pf.fnt_mk ?l ?c ?k; (case l => k_is); (case c => k_is); (case k => k_is)))
    (case k_check_pixel => k_is)
    (case d_Picture_init => (refine' Pf.fnt_mk ?l ?c ?k; (case l => k_is); (case c => k_is); (case k => k_is)))
    (case d_Picture_plain => (refine' Pf.fntD1_mk ?l ?c ?k ?t ?v; (case l => k_is); (case c => k_is); (case k => k_is); (case t => k_is); (case v => first | exact ⟨_, rfl⟩ | rfl)))
    (case d_Picture_height => (refine' Pf.fnt_mk ?l ?c ?k; (case l => k_is); (case c => k_is); (case k => k_is)))
    (case d_Picture_getitem => (refine' Pf.fnt_mk ?l ?c ?k; (case l => k_is); (case c => k_is); (case k => k_is)))
    (case d_Picture_area => (refine' Pf.fnt_mk ?l ?c ?k; (case l => k_is); (case c => k_is); (case k => k_is)))
    (case d_Picture_flipped => (refine' Pf.fnt_mk ?l ?c ?k; (case l => k_is); (case c => k_is); (case k => k_is)))
    (case d_Picture_region => (refine' Pf.fnt_mk ?l ?c ?k; (case l => k_is); (case c => k_is); (case k => k_is)))
    (case d_Picture_way => (refine' Pf.fnt_mk ?l ?c ?k; (case l => k_is); (case c => k_is); (case k => k_is)))
    (case d__law_heard => (refine' Pf.fnt_mk ?l ?c ?k; (case l => k_is); (case c => k_is); (case k => k_is)))
    (case k__law_heard => k_is)
    (case d__law_is_line => (refine' Pf.fnt_mk ?l ?c ?k; (case l => k_is); (case c => k_is); (case k => k_is)))
    (case k__law_is_line => k_is)
    (case d__law_due => (refine' Pf.fnt_mk ?l ?c ?k; (case l => k_is); (case c => k_is); (case k => k_is)))
    (case k__law_due => k_is)
    (case d__law_handed => (refine' Pf.fnt_mk ?l ?c ?k; (case l => k_is); (case c => k_is); (case k => k_is)))
    (case k__law_handed => k_is)
    (case d__law_odd_whole => (refine' Pf.fnt_mk ?l ?c ?k; (case l => k_is); (case c => k_is); (case k => k_is)))
    (case k__law_odd_whole => k_is)
    (case d__law_sizes_right => (refine' Pf.fnt_mk ?l ?c ?k; (case l => k_is); (case c => k_is); (case k => k_is)))
    (case k__law_sizes_right => k_is)
    (case d__law_pixels_right => (refine' Pf.fnt_mk ?l ?c ?k; (case l => k_is); (case c => k_is); (case k => k_is)))
    (case k__law_pixels_right => k_is)
    (case d_law => (refine' Pf.fnt_mk ?l ?c ?k; (case l => k_is); (case c => k_is); (case k => k_is)))
    (case k_law => k_is)
    (case FC1 => (refine' Ow.FnC.mk ?l ?c; (case l => k_is); (case c => k_is)))
    (case CT1 => (refine' Ow.codeHd_mk KX ?l ?e1 ?e2 ?e3 ?e4 ?e5 ?e6 ?ne; (case l => k_is); (case e1 => rfl); (case e2 => rfl); (case e3 => rfl); (case e4 => rfl); (case e5 => rfl); (case e6 => rfl); (case ne => decide)))
    (case nT1 => exact Ow.km_none Y (by decide +kernel))
    (case eT1 => exact PySem.W.km_tabs_of Y _ (by simp))
    (case FC2 => (refine' Ow.FnC.mk ?l ?c; (case l => k_is); (case c => k_is)))
    (case CT2 => (refine' Ow.codeHd_mk KX ?l ?e1 ?e2 ?e3 ?e4 ?e5 ?e6 ?ne; (case l => k_is); (case e1 => rfl); (case e2 => rfl); (case e3 => rfl); (case e4 => rfl); (case e5 => rfl); (case e6 => rfl); (case ne => decide)))
    (case nT2 => exact Ow.km_none Y (by decide +kernel))
    (case eT2 => exact PySem.W.km_tabs_of Y _ (by simp))
    (case FC3 => (refine' Ow.FnC.mk ?l ?c; (case l => k_is); (case c => k_is)))
    (case CT3 => (refine' Ow.codeHd_mk KX ?l ?e1 ?e2 ?e3 ?e4 ?e5 ?e6 ?ne; (case l => k_is); (case e1 => rfl); (case e2 => rfl); (case e3 => rfl); (case e4 => rfl); (case e5 => rfl); (case e6 => rfl); (case ne => decide)))
    (case nT3 => exact Ow.km_none Y (by decide +kernel))
    (case eT3 => exact PySem.W.km_tabs_of Y _ (by simp))
    (case ne12 => decide)
    (case ne13 => decide)
    (case ne23 => decide)
