import PyProof.Rows.All
import Wide.All
import OpenK.AllK
import Wide.FinOn
import PyProof.EqAt
import PyProof.EqKinds
import PyProof.TupleCall
import PyProof.InstNe
import KE.KOpsOwn
import HandS.Base
import HandS.Call
import HandS.List
import HandS.More
import PyProof.TwoTypesSub
import PyProof.AutoIntOps
import PyProof.StrReplace2
import HandS.Words
import HandS.Star
import HandS.IsInst
import HandS.Defaults
import HandS.Property
import HandS.OwnEq
import HandS.Lambda
import HandS.Ends
import PyProof.ReprRoads
import HandS.ExcInit
import HandS.ExcField
import HandS.CallSlots
import HandS.ForExc
import HandS.ExcIs
import KE.KExcIs
import HandS.EndTab
import HandS.MakeKwOnly
import HandS.FStr
import KE.KCallOwn
import HandS.RaiseMore
import HandS.ExcInitHot
import HandS.ExcValue
import HandS.Walk
import HandS.ForMost
import HandS.StrMore
import HandS.ClsMeth
import OpenK.KMeth
import KE.GoesMore
import HandS.Codes
import PyProof.StrBlock2
import HandS.TryMany
import HandS.Zip
import KE.GoesZip
import HandS.Deep
import HandS.TupMul
import HandS.CallLocal
import HandS.MapJoin
import HandS.Wide
import HandS.Text
import HandS.Style
import PySem.Challenge.RW_heldfloods_k24_texts_of_pictures
set_option Elab.async false
set_option linter.all false
set_option maxRecDepth 100000
section
set_option maxHeartbeats 4000000
/-! Operators that an own class defines, over instances that are tracked. -/
namespace Ow
open PySem PySem.Spec PyProof.Rows L2

/-- an instance of the class at C stands at a -/
def InsAt (H : Hp) (a C : Addr) : Prop := ∃ dx fs, H a = some (.ins C dx fs)

section
variable {X : Cx} {CX : CXT} {n : Nat} {C g : Addr} {sp : Sp} {E : XK}

theorem inst_of {pins : List (Addr × Obj)} {σ : L2.St} {H : Hp} {s : Shared} {a : Addr} (I : Inv X pins σ H s) (h : InsAt H a C) : ∃ ox od, PySem.W.InstAt s.heap a ox C od := by
  obtain ⟨dx, fs, ea⟩ := h
  obtain ⟨mA, O, _⟩ := ins_get I.hok ea
  obtain ⟨od, J, _⟩ := O.look
  exact ⟨_, _, J⟩

theorem cmpbackR {Q : Value → Shared → Prop} {v : V} {u : Value} {s : Shared} (r : RelV v u) (q : Q u s) : PySem.W.CmpBack Q u s := by
  cases v <;> first
    | (cases r; exact q)
    | (obtain ⟨t, rfl⟩ := r; exact q)

/-- x op y, both instances of C -/
def rBin (C : Addr) (sp : Sp) (E : XK) : R2 := fun x y H Q => ∃ a b, x = .ref a ∧ y = .ref b ∧ InsAt H a C ∧ InsAt H b C ∧ sp [x, y] H Q E
theorem op_bin {op : Operator} (hc : PySem.W.selfFirst X.K C = true) (hs : PySem.W.findIn X.K (.ref C) (PySem.dunder op.info.2) = some (some (.ref g))) (hf : PySem.W.isFn X.K (.ref g) = true)
    (F : FnR X.prog X.w X.K X.mg X.base CX n g sp) (hr : Room n X.A) (hx : Passes CX X E) : OpR X (binaryOp op) (rBin C sp E) := by
  intro pins s σ H x y v u Q I rx ry h
  obtain ⟨a, b, rfl, rfl, ha, hb, q⟩ := h
  cases (show v = Value.ref a from rx)
  cases (show u = Value.ref b from ry)
  obtain ⟨ox, od, J⟩ := inst_of I ha
  obtain ⟨oy, od', J'⟩ := inst_of I hb
  obtain ⟨m, hF⟩ := I.fr
  refine PySem.W.binop_K (op := op) hF I.ok.mod.kin J J'.type hc hs hf ?_
  refine wpAny_mono (wpAny_call (run_fnR (us := [.ref a, .ref b]) (vs := [.ref a, .ref b]) F hr hx I (.cons rfl (.cons rfl .nil)) q)) (fun w s' z => ?_) fun _ _ x => x
  obtain ⟨z', H', I', rz, qz⟩ := z
  exact cmpbackR rz ⟨z', H', I', rz, qz⟩

/-- x op n, an instance of C and an int -/
def rBinI (C : Addr) (sp : Sp) (E : XK) : R2 := fun x y H Q => ∃ a i, x = .ref a ∧ y = .int i ∧ InsAt H a C ∧ sp [x, y] H Q E
theorem op_binI {op : Operator} {fo ro rc : Option Value} (hc : PySem.W.selfFirst X.K C = true) (hs : PySem.W.findIn X.K (.ref C) (PySem.dunder op.info.2) = some (some (.ref g))) (hf : PySem.W.isFn X.K (.ref g) = true)
    (hrr : PySem.W.findIn X.K (.ref C) (dunderR op.info.2) = some rc) (hp : rc = none ∨ ∃ g : Addr, rc = some (.ref g))
    (h1 : PySem.W.findIn X.K (.type "int") (PySem.dunder op.info.2) = some fo) (h2 : PySem.W.findIn X.K (.type "int") (dunderR op.info.2) = some ro) (hsub : PySem.W.subIn X.K (.type "int") (.ref C) = some false)
    (F : FnR X.prog X.w X.K X.mg X.base CX n g sp) (hr : Room n X.A) (hx : Passes CX X E) : OpR X (binaryOp op) (rBinI C sp E) := by
  intro pins s σ H x y v u Q I rx ry h
  obtain ⟨a, i, rfl, rfl, ha, q⟩ := h
  cases (show v = Value.ref a from rx)
  obtain ⟨t, rfl⟩ := ry
  obtain ⟨ox, od, J⟩ := inst_of I ha
  obtain ⟨m, hF⟩ := I.fr
  refine PySem.W.ksp_binT (op := op) (T := "int") hF I.ok.mod.kin J rfl hc hs hf hrr hp h1 h2 hsub ?_
  refine wpAny_mono (wpAny_call (run_fnR (us := [.ref a, .int i t]) (vs := [.ref a, .int i]) F hr hx I (.cons rfl (.cons ⟨t, rfl⟩ .nil)) q)) (fun w s' z => ?_) fun _ _ x => x
  obtain ⟨z', H', I', rz, qz⟩ := z
  exact cmpbackR rz ⟨z', H', I', rz, qz⟩

/-- ~x -/
def rUn (C : Addr) (sp : Sp) (E : XK) : V → Hp → VK → Prop := fun x H Q => ∃ a, x = .ref a ∧ InsAt H a C ∧ sp [x] H Q E
theorem un_inv_own (hs : PySem.W.findIn X.K (.ref C) "__invert__" = some (some (.ref g))) (hf : PySem.W.isFn X.K (.ref g) = true)
    (F : FnR X.prog X.w X.K X.mg X.base CX n g sp) (hr : Room n X.A) (hx : Passes CX X E) : UnR X (unaryOp .Invert) (rUn C sp E) := by
  intro pins s σ H x v Q I rx h
  obtain ⟨a, rfl, ha, q⟩ := h
  cases (show v = Value.ref a from rx)
  obtain ⟨ox, od, J⟩ := inst_of I ha
  obtain ⟨m, hF⟩ := I.fr
  refine PySem.W.ksp_inv hF I.ok.mod.kin J hs hf ?_
  exact wpAny_call (run_fnR (us := [.ref a]) (vs := [.ref a]) F hr hx I (.cons rfl .nil) q)

/-- x op y, a comparison whose def stands at g; y an instance of C too -/
theorem op_cmp {op : CmpOp} (hop : ∀ a b, compareOp op a b = richCompare op a b) (hs : PySem.W.findIn X.K (.ref C) (cmpInfo op).2.1 = some (some (.ref g))) (hf : PySem.W.isFn X.K (.ref g) = true) (hn : PySem.W.notFirst X.K C (.ref C) = true)
    (F : FnR X.prog X.w X.K X.mg X.base CX n g sp) (hr : Room n X.A) (hx : Passes CX X E) : OpR X (compareOp op) (rBin C sp E) := by
  intro pins s σ H x y v u Q I rx ry h
  obtain ⟨a, b, rfl, rfl, ha, hb, q⟩ := h
  cases (show v = Value.ref a from rx)
  cases (show u = Value.ref b from ry)
  obtain ⟨ox, od, J⟩ := inst_of I ha
  obtain ⟨oy, od', J'⟩ := inst_of I hb
  obtain ⟨m, hF⟩ := I.fr
  rw [hop]
  refine PySem.W.cmp_K (op := op) (tb := .ref C) hr.units0 hF I.ok.mod.kin J J'.type hn hs hf ?_
  refine wpAny_mono (wpAny_call (run_fnR (us := [.ref a, .ref b]) (vs := [.ref a, .ref b]) F hr hx I (.cons rfl (.cons rfl .nil)) q)) (fun w s' z => ?_) fun _ _ x => x
  obtain ⟨z', H', I', rz, qz⟩ := z
  exact cmpbackR rz ⟨z', H', I', rz, qz⟩
end
end Ow
end
section
set_option maxHeartbeats 4000000
namespace Ow
open PySem PySem.Spec PyProof.Rows L2 PySem.W

section
variable {prog : Program} {w : World} {M : Model} {A : Around} {E : Value → Shared → Prop} {s : Shared} {K : Frag} {x C L f : Addr} {h₀ : Heap} {m : Str → Option Value} {ox : Obj} {od : Option Obj} {nm : String}

theorem add_ref_at {i : Int} {t : Tok} {x C dx : Addr} : GivesAt (fun s => s.heap.get? x = some (instObj C dx)) (Builtin.«int.__add__» ⟨[.int i t, .ref x], []⟩) (.val Value.notImplemented) := by
  intro prog w A R s hx h
  obtain ⟨hp, g, d, tk, os⟩ := s
  have hl : ∀ {M : Model} {A : Around} {E : Value → Shared → Prop} {Q : Option Int → Shared → Prop}, Q none ⟨hp, g, d, tk, os⟩ → wpAny M A (asInt? (.ref x)) Q E ⟨hp, g, d, tk, os⟩ := by
    intro M A E Q q
    unfold asInt?
    exact wpAny_bind (wpAny_load hx (wpAny_pure q))
  unfold Builtin.«int.__add__»
  wp_walk using hl
  exact h
theorem int_add_ref {i : Int} {t : Tok} {x C dx : Addr} {s : Shared} {Q : Value → Shared → Prop} (hx : s.heap.get? x = some (instObj C dx)) (h : Q .notImplemented s) :
    wpAny (model prog w) A (call (.builtin "int.__add__") [.int i t, .ref x]) Q E s :=
  call_givesAt F.slot_int_add (typeIs_int s i t) F.entry_int_add (F.args_int_add_2 _ _) add_ref_at hx h
theorem int_add_own {i : Int} {t : Tok} {x C dx f fa : Addr} {cd : ClassData} {rest : List Value} {Q : Value → Shared → Prop} (X : K.In s.heap) (hx : s.heap.get? x = some (instObj C dx)) (I : InstAt s.heap x ox C od) (hcd : clsIn K C = some cd) (hm : cd.mro = .ref C :: rest)
    (ha : findIn K (.ref C) (PySem.dunder "add") = some (some (.ref fa))) (hs : findIn K (.ref C) (dunderR "add") = some (some (.ref f))) (hf : isFn K (.ref f) = true) (hsub : subIn K (.ref C) (.type "int") = some false)
    (h : wpAny (model prog w) A (call (.ref f) [.ref x, .int i t]) (PySem.W.CmpBack Q) E s) : wpAny (model prog w) A (binaryOp .Add (.int i t) (.ref x)) Q E s := by
  have one := ksp_try X I hs hf h
  have two : ∀ {Q' : Option Value → Shared → Prop}, Q' none s → wpAny (model prog w) A (tryMethod (.int i t) (PySem.dunder "add") (.ref x)) Q' E s := by
    intro Q' q
    unfold tryMethod
    exact wpAny_bind (wpAny_callSpecial?_slot (typeIs_int s i t) F.slot_int_add (int_add_ref hx (wpAny_pure q)))
  obtain ⟨hh, g, d, tt, os⟩ := s
  have L1 : Looks (model prog w) hh (typeOf (.int i t)) (.type "int") := Looks.of_pure rfl
  have L2 : Looks (model prog w) hh (typeOf (.ref x)) (.ref C) := I.type
  have L3 : Looks (model prog w) hh (fillsNumberSlot (.type "int") "add") true := Looks.of_pure F.fills_int_add
  have L4 : Looks (model prog w) hh (fillsNumberSlot (.ref C) "add") true := fills_K X hcd hm ha
  have L5 : Looks (model prog w) hh (isSubtype (.ref C) (.type "int")) false := looks_subIn X hsub
  have L7 : Looks (model prog w) hh (numberSlotInPython (.type "int") "add") false := Looks.of_pure rfl
  have hne : (Value.type "int" == Value.ref C) = false := Bool.eq_false_iff.mpr fun q => by cases beq_iff_eq.mp q
  show wpAny (model prog w) A (binaryOp .Add (.int i t) (.ref x)) Q E _
  have hi : Operator.info .Add = ("+", "add") := rfl
  simp only [binaryOp, hi]
  refine wpAny_holding (wpAny_bind ?_)
  unfold binaryOp1
  refine wpAny_bind (L1.at (wpAny_bind (L2.at (wpAny_bind (L3.at ?_)))))
  simp only [hne, Bool.false_eq_true, if_false]
  ksp_lk
  refine two ?_
  ksp_lk
  refine wpAny_mono one (fun r s' hr' => ?_) fun _ _ e => e
  obtain ⟨v, rfl, hq⟩ := hr'
  ksp_lk
  exact hq
end
end Ow
end
section
set_option maxHeartbeats 4000000
namespace Ow
open PySem PySem.Spec PyProof.Rows L2 PySem.W

section
variable {prog : Program} {w : World} {M : Model} {A : Around} {E : Value → Shared → Prop} {s : Shared} {K : Frag} {x C L f : Addr} {h₀ : Heap} {m : Str → Option Value} {ox : Obj} {od : Option Obj} {nm T : String}
/-- no += of one's own: C over object alone -/
theorem noI_own {h : Heap} {cd : ClassData} {add : Bool} (X : K.In h) (hc : clsIn K C = some cd) (hm : cd.mro = [.ref C, .type "object"]) (hs : findIn K (.ref C) (dunderI nm) = some none)
    (ho : typeLookup (.type "object") (dunderI nm) = pure none) : Looks M h (fillsInplaceSlot (.ref C) nm add) false := by
  intro A Q E s k q
  have Lm : Looks M h (mroOf (.ref C)) cd.mro := (looks_clsIn X hc).andThen (f := fun cd => pure cd.mro) .now
  have Lm' := Lm.keeps k
  obtain ⟨hh, g, d, tt, os⟩ := s
  have X' : K.In hh := X.keeps k
  have L1 : Looks M hh (typeLookup (.ref C) (dunderI nm)) none := looks_findIn X' hs
  have L2 : Looks M hh (typeLookup (.type "object") (dunderI nm)) none := Looks.of_pure ho
  unfold fillsInplaceSlot
  refine wpAny_bind (Lm'.at ?_)
  rw [hm, List.anyM_cons]
  refine wpAny_bind (wpAny_bind (L1.at ?_))
  refine wpAny_pure ?_
  simp only [Bool.false_eq_true, if_false]
  rw [List.anyM_cons]
  refine wpAny_bind (wpAny_bind (L2.at ?_))
  refine wpAny_pure ?_
  simp only [Bool.false_eq_true, if_false]
  exact wpAny_pure q

theorem iadd_own {op : Operator} {b : Value} {cd : ClassData} {fo ro rc : Option Value} {Q : Value → Shared → Prop} (X : K.In s.heap) (I : InstAt s.heap x ox C od) (hb : typeOf b = pure (.type T)) (hcd : clsIn K C = some cd) (hm : cd.mro = [.ref C, .type "object"])
    (hni : findIn K (.ref C) (dunderI op.info.2) = some none) (hno : typeLookup (.type "object") (dunderI op.info.2) = pure none)
    (hs : findIn K (.ref C) (PySem.dunder op.info.2) = some (some (.ref f))) (hf : isFn K (.ref f) = true) (hr : findIn K (.ref C) (dunderR op.info.2) = some rc) (hp : rc = none ∨ ∃ g : Addr, rc = some (.ref g))
    (h1 : findIn K (.type T) (PySem.dunder op.info.2) = some fo) (h2 : findIn K (.type T) (dunderR op.info.2) = some ro) (hsub : subIn K (.type T) (.ref C) = some false)
    (h : wpAny (model prog w) A (call (.ref f) [.ref x, b]) (PySem.W.CmpBack Q) E s) : wpAny (model prog w) A (inplaceOp op (.ref x) b) Q E s := by
  rcases hi : op.info with ⟨sym, nm'⟩
  rw [hi] at hs hr h1 h2 hni hno
  dsimp only at hs hr h1 h2 hni hno
  have one := ksp_try X I hs hf h
  obtain ⟨hh, g, d, tt, os⟩ := s
  have L0 : Looks (model prog w) hh (fillsInplaceSlot (.ref C) nm' (op == .Add)) false := noI_own X hcd hm hni hno
  have L1 : Looks (model prog w) hh (typeOf (.ref x)) (.ref C) := I.type
  have L2 : Looks (model prog w) hh (typeOf b) (.type T) := Looks.of_pure hb
  have L3 : Looks (model prog w) hh (fillsNumberSlot (.ref C) nm') true := fills_K X hcd hm hs
  have L4 : Looks (model prog w) hh (fillsNumberSlot (.type T) nm') ((fo.isSome && !isSeqSlot fo) || (ro.isSome && !isSeqSlot ro)) := ksp_fillsT X h1 h2
  have L5 : Looks (model prog w) hh (isSubtype (.type T) (.ref C)) false := looks_subIn X hsub
  have L6 : Looks (model prog w) hh (numberSlotInPython (.ref C) nm') true := ksp_inPy X hs hr hp
  have L7 : Looks (model prog w) hh (numberSlotInPython (.type T) nm') false := Looks.of_pure rfl
  have L8 : Looks (model prog w) hh (typeLookup (.type T) (dunderR nm')) ro := looks_findIn X h2
  generalize ((fo.isSome && !isSeqSlot fo) || (ro.isSome && !isSeqSlot ro)) = right at L4
  have hne : (Value.ref C == Value.type T) = false := Bool.eq_false_iff.mpr fun q => by cases beq_iff_eq.mp q
  unfold inplaceOp
  simp only [hi]
  refine wpAny_holding (wpAny_bind (L1.at (wpAny_bind (L0.at ?_))))
  simp only [Bool.false_eq_true, if_false]
  refine wpAny_bind ?_
  unfold binaryOp1
  refine wpAny_bind (L1.at (wpAny_bind (L2.at (wpAny_bind (L3.at ?_)))))
  simp only [hne, Bool.false_eq_true, if_false]
  cases right with
  | false =>
    ksp_lk
    refine wpAny_mono one (fun r s' hr' => ?_) fun _ _ e => e
    obtain ⟨v, rfl, hq⟩ := hr'
    ksp_lk
    exact hq
  | true =>
    ksp_lk
    refine wpAny_mono one (fun r s' hr' => ?_) fun _ _ e => e
    obtain ⟨v, rfl, hq⟩ := hr'
    ksp_lk
    exact hq
end
end Ow
end
section
set_option maxHeartbeats 4000000
namespace Ow
open PySem PySem.Spec PyProof.Rows L2 PySem.W

section
variable {prog : Program} {w : World} {M : Model} {A : Around} {E : Value → Shared → Prop} {s : Shared} {K : Frag} {x y C L f : Addr} {ox oy : Obj} {od od' : Option Obj}

theorem objNe_K {Q : PySem.Fin → Shared → Prop} (X : K.In s.heap) (I : InstAt s.heap x ox C od) (hs : findIn K (.ref C) "__eq__" = some (some (.ref f))) (hf : isFn K (.ref f) = true) (hu : A.units < cLine)
    (hcall : wpAny (model prog w) A (call (.ref f) [.ref x, .ref y]) (fun v s' => ∃ b, v = .bool b ∧ Q (.done (.ret (.bool (!b)))) s') E s) :
    wpAny (model prog w) A (Builtin.«object.__ne__» ⟨[.ref x, .ref y], []⟩) Q E s := by
  unfold Builtin.«object.__ne__»
  repeat (first
    | with_reducible refine wpAny_cRoomFor hu ?_
    | (refine wpAny_bind (m := callSpecialIfBound? (.ref x) (Str.ofString "__eq__") [.ref y])
        (ifBound_K X I hs hf (wpAny_mono hcall (fun r s' hr => by
          obtain ⟨b, rfl, hq⟩ := hr
          repeat (first | exact hq | exact wpAny_pure hq | exact wpAny_truthy_bool hq | (refine wpAny_bind (m := truthy (.bool _)) (wpAny_truthy_bool ?_)) | wp_step)) fun _ _ e => e)))
    | wp_step)

theorem check_K {id owner n : String} {rest : List Value} {Q : Unit → Shared → Prop} (X : K.In s.heap) (I : InstAt s.heap x ox C od) (hk : builtinKind id = some .slot) (hs : splitId id = some (owner, n))
    (ha : argsOk id ⟨.ref x :: rest, []⟩) (hob : subIn K (.ref C) (.type owner) = some true) (hq : Q () s) :
    wpAny M A (checkBuiltinCall id ⟨.ref x :: rest, []⟩) Q E s := by
  obtain ⟨h, g, d, t, os⟩ := s
  have Ls : Looks M h (isSubtype (.ref C) (.type owner)) true := looks_subIn X hob
  have hx := I.at_
  have hc := I.cls
  have X0 := X
  simp only [checkBuiltinCall, hk, hs]
  refine wpAny_bind ?_
  unfold isInstance
  repeat (first | (with_reducible refine wpAny_loadPart_at hx ?_; rw [hc]) | (with_reducible refine Ls.here ?_) | wp_step)
  cases hsig : Manifest.signature? id with
  | none => exact wpAny_pure hq
  | some sig =>
    simp only [argsOk, hsig] at ha
    have h2 : Bind.checkArgs id sig ⟨.ref x :: rest, []⟩ = pure () := ha
    show wpAny M A (Bind.checkArgs id sig ⟨.ref x :: rest, []⟩) Q E _
    rw [h2]; exact wpAny_pure hq

theorem ne_own {Q : Value → Shared → Prop} (hu : A.units + 1 < cLine) (X : K.In s.heap) (I : InstAt s.heap x ox C od) (J : InstAt s.heap y oy C od') (hne : findIn K (.ref C) "__ne__" = some (some (.builtin "object.__ne__")))
    (hs : findIn K (.ref C) "__eq__" = some (some (.ref f))) (hf : isFn K (.ref f) = true) (hob : subIn K (.ref C) (.type "object") = some true)
    (hcall : wpAny (model prog w) A.in1 (call (.ref f) [.ref x, .ref y]) (fun v s' => ∃ b, v = .bool b ∧ Q (.bool (!b)) s') E s) :
    wpAny (model prog w) A (compareOp .NotEq (.ref x) (.ref y)) Q E s := by
  have S := F.cmp_object.ne
  have one : wpAny (model prog w) A (tryCompare (.ref x) "__ne__" (.ref y)) (fun r s' => ∃ v, r = some v ∧ Q v s') E s := by
    unfold tryCompare
    refine wpAny_bind ?_
    simp only [callSpecialIfBound?, bindSpecialIfBound?]
    refine wpAny_holding (wpAny_bind (wpAny_bind (wpAny_bind (I.type.here ((looks_findIn X hne).here ?_)))))
    simp only [S.bind]
    have fin : ∀ {R : Option Value → Shared → Prop}, (∀ b s', Q (.bool (!b)) s' → R (some (.bool (!b))) s') → wpAny (model prog w) A (call (.builtin "object.__ne__") ([.ref x] ++ [.ref y]) >>= fun v => pure (some v)) R E s := by
      intro R hR
      refine wpAny_bind (wpAny_call (codeAny_call_builtin S.plain F.cmpEntry_ne (check_K X I F.cmpKind_ne F.cmpSplit_ne (F.cmpArgs_ne _ _) hob (objNe_K (A := A.in1) X I hs hf hu (wpAny_mono hcall (fun v s' hv => ?_) fun _ _ e => e)))))
      obtain ⟨b, rfl, hq⟩ := hv
      exact ⟨b, rfl, wpAny_pure (hR b _ hq)⟩
    refine wpAny_bind (wpAny_askSetting (wpAny_ite ?_))
    split
    · exact wpAny_bind (wpAny_pure (wpAny_pure (fin fun b s' hq => wpAny_pure ⟨_, rfl, hq⟩)))
    · exact wpAny_tryCatch (wpAny_bind (wpAny_pure (wpAny_pure (fin fun b s' hq => wpAny_pure ⟨_, rfl, hq⟩))))
  show wpAny (model prog w) A (richCompare .NotEq (.ref x) (.ref y)) Q E s
  unfold richCompare
  simp only [oneThing_ref]
  refine wpAny_holding (wpAny_bind (wpAny_cRoomFor (Nat.lt_of_succ_lt hu) ?_))
  refine wpAny_bind (I.type.here (wpAny_bind (J.type.here ?_)))
  rw [show (Value.ref C != Value.ref C) = false from by simp]
  simp only [Bool.false_eq_true, if_false]
  refine wpAny_bind (wpAny_pure ?_)
  simp only [Bool.false_eq_true, if_false]
  refine wpAny_bind (wpAny_mono one (fun r s' z => ?_) fun _ _ e => e)
  obtain ⟨v, rfl, hq⟩ := z
  exact wpAny_pure hq
end

section
variable {X : Cx} {CX : CXT} {n : Nat} {C g : Addr} {sp : Sp} {E : XK}
/-- x != y, both instances of C, which has == alone -/
def rNeOwn (C : Addr) (sp : Sp) (E : XK) : R2 := fun x y H Q => ∃ a b, x = .ref a ∧ y = .ref b ∧ InsAt H a C ∧ InsAt H b C ∧ sp [x, y] H (fun v H' => ∃ k, v = .bl k ∧ Q (.bl (!k)) H') E
theorem op_ne_own (hne : PySem.W.findIn X.K (.ref C) "__ne__" = some (some (.builtin "object.__ne__"))) (hs : PySem.W.findIn X.K (.ref C) "__eq__" = some (some (.ref g))) (hf : PySem.W.isFn X.K (.ref g) = true) (hob : PySem.W.subIn X.K (.ref C) (.type "object") = some true)
    (F : FnR X.prog X.w X.K X.mg X.base CX n g sp) (hr : Room (n + 1) X.A) (hx : Passes CX X E) : OpR X (compareOp .NotEq) (rNeOwn C sp E) := by
  intro pins s σ H x y v u Q I rx ry h
  obtain ⟨a, b, rfl, rfl, ha, hb, q⟩ := h
  cases (show v = Value.ref a from rx)
  cases (show u = Value.ref b from ry)
  obtain ⟨ox, od, J⟩ := inst_of I ha
  obtain ⟨oy, od', J'⟩ := inst_of I hb
  have hu : X.A.units + 1 < cLine := hu_of hr
  refine ne_own hu I.kIn J J' hne hs hf hob ?_
  refine wpAny_call ?_
  refine codeAny_mono (F X.A.in1 X.stack s H [.ref a, .ref b] [.ref a, .ref b] _ E hr.in1 I.env0.in1 (.cons rfl (.cons rfl .nil)) q) fun r s' hq => ?_
  cases r with
  | error e => exact hx pins σ H s e s' I hq
  | ok fl =>
    cases fl with
    | ret u =>
      obtain ⟨v, H', I2, rv, k, ev, qq⟩ := I.after hq
      subst ev
      cases (show u = Value.bool k from rv)
      exact ⟨k, rfl, .bl (!k), H', I2, rfl, qq⟩
    | next => exact False.elim hq
    | brk => exact False.elim hq
    | cont => exact False.elim hq
end
end Ow
end
section
set_option maxHeartbeats 4000000
namespace Ow
open PySem PySem.Spec PyProof.Rows L2 StX

section
variable {X : Cx} {CX : CXT} {n : Nat} {C g fa : Addr} {sp : Sp} {E : XK}

theorem inst_of2 {pins : List (Addr × Obj)} {σ : L2.St} {H : Hp} {s : Shared} {a : Addr} (I : Inv X pins σ H s) (h : InsAt H a C) : ∃ dx od, s.heap.get? a = some (PySem.W.instObj C dx) ∧ PySem.W.InstAt s.heap a (PySem.W.instObj C dx) C od := by
  obtain ⟨dx, fs, ea⟩ := h
  obtain ⟨mA, O, _⟩ := ins_get I.hok ea
  obtain ⟨od, J, _⟩ := O.look
  exact ⟨dx, _, J.at_, J⟩

/-- n + x: the instance's __radd__ -/
def rBinR (C : Addr) (sp : Sp) (E : XK) : R2 := fun x y H Q => ∃ a i, x = .int i ∧ y = .ref a ∧ InsAt H a C ∧ sp [y, x] H Q E
theorem op_radd (hc : PySem.W.selfFirst X.K C = true) (ha : PySem.W.findIn X.K (.ref C) (PySem.dunder "add") = some (some (.ref fa))) (hs : PySem.W.findIn X.K (.ref C) (dunderR "add") = some (some (.ref g))) (hf : PySem.W.isFn X.K (.ref g) = true)
    (hsub : PySem.W.subIn X.K (.ref C) (.type "int") = some false)
    (F : FnR X.prog X.w X.K X.mg X.base CX n g sp) (hr : Room n X.A) (hx : Passes CX X E) : OpR X (binaryOp .Add) (rBinR C sp E) := by
  intro pins s σ H x y v u Q I rx ry h
  obtain ⟨a, i, rfl, rfl, hia, q⟩ := h
  obtain ⟨t, rfl⟩ := rx
  cases (show u = Value.ref a from ry)
  obtain ⟨dx, od, hx', J⟩ := inst_of2 I hia
  obtain ⟨cd, rest, hcd, hm⟩ := PySem.W.ksp_first hc
  refine int_add_own I.kIn hx' J hcd hm ha hs hf hsub ?_
  refine wpAny_mono (wpAny_call (run_fnR (us := [.ref a, .int i t]) (vs := [.ref a, .int i]) F hr hx I (.cons rfl (.cons ⟨t, rfl⟩ .nil)) q)) (fun w s' z => ?_) fun _ _ x => x
  obtain ⟨z', H', I', rz, qz⟩ := z
  exact cmpbackR rz ⟨z', H', I', rz, qz⟩

def mro2 (K : PySem.W.Frag) (C : Addr) : Bool := (PySem.W.clsIn K C).any fun cd => cd.mro == [.ref C, .type "object"]
theorem mro2_of {K : PySem.W.Frag} {C : Addr} (h : mro2 K C = true) : ∃ cd, PySem.W.clsIn K C = some cd ∧ cd.mro = [.ref C, .type "object"] := by
  obtain ⟨cd, hcd, hm⟩ := PySem.W.any_some h
  exact ⟨cd, hcd, beq_iff_eq.mp hm⟩
theorem noI_obj_add : typeLookup (.type "object") (dunderI "add") = pure none := by rw [typeLookup_type, builtinLookup_eq_fast]; kernel_rfl
/-- x += n, the class has no __iadd__ -/
theorem iop_addI {fo ro rc : Option Value} (hc : mro2 X.K C = true) (hni : PySem.W.findIn X.K (.ref C) (dunderI "add") = some none) (hs : PySem.W.findIn X.K (.ref C) (PySem.dunder "add") = some (some (.ref g))) (hf : PySem.W.isFn X.K (.ref g) = true)
    (hrr : PySem.W.findIn X.K (.ref C) (dunderR "add") = some rc) (hp : rc = none ∨ ∃ g : Addr, rc = some (.ref g))
    (h1 : PySem.W.findIn X.K (.type "int") (PySem.dunder "add") = some fo) (h2 : PySem.W.findIn X.K (.type "int") (dunderR "add") = some ro) (hsub : PySem.W.subIn X.K (.type "int") (.ref C) = some false)
    (F : FnR X.prog X.w X.K X.mg X.base CX n g sp) (hr : Room n X.A) (hx : Passes CX X E) : OpR X (inplaceOp .Add) (rBinI C sp E) := by
  intro pins s σ H x y v u Q I rx ry h
  obtain ⟨a, i, rfl, rfl, hia, q⟩ := h
  cases (show v = Value.ref a from rx)
  obtain ⟨t, rfl⟩ := ry
  obtain ⟨ox, od, J⟩ := inst_of I hia
  obtain ⟨cd, hcd, hm⟩ := mro2_of hc
  refine iadd_own (op := .Add) (T := "int") I.kIn J rfl hcd hm hni noI_obj_add hs hf hrr hp h1 h2 hsub ?_
  refine wpAny_mono (wpAny_call (run_fnR (us := [.ref a, .int i t]) (vs := [.ref a, .int i]) F hr hx I (.cons rfl (.cons ⟨t, rfl⟩ .nil)) q)) (fun w s' z => ?_) fun _ _ x => x
  obtain ⟨z', H', I', rz, qz⟩ := z
  exact cmpbackR rz ⟨z', H', I', rz, qz⟩

/-- f(e, ..), a def of the module, by its positional promise -/
def tCallR (sp : Sp) (E : XK) (t : TA) : TE := fun σ H Q => t σ H fun vs H1 => sp vs H1 Q E
theorem pe_callR {x : Str} {f : Addr} {e : Expr} {es : List Expr} {t : TA} {p pos : Pos} (F : FnR X.prog X.w X.K X.mg X.base CX n f sp) (hr : Room n X.A) (hm : X.mg x = some (.ref f)) (hk : PySem.W.keepIn X.K (.ref f) = true) (hx : Passes CX X E)
    (ha : PA X (e :: es) t) (hg : Gl X x := by rfl) (hdb : (x == ("__debug__" : Str)) = false := by decide) (he : starEach (e :: es) X.env = (false, eval e X.env) :: starEach es X.env := by rfl) (hpl : (backTo pos (starEach es X.env)).any (·.1) = false := by rfl) :
    PE X (.Call (.Name x p) (e :: es) [] pos) (tCallR sp E t) := by
  refine ⟨fun pins s σ H Q I h => ?_⟩
  refine wpAny_Call_Name_kw (ld_glob I hg hm ?_ hdb)
  refine PySem.W.callWith_K (h₀ := X.base) I.ok.mod.kin hk (thn (ha.run pos pins s σ H _ I h) fun us s1 ⟨vs, H1, I1, r, q⟩ => ⟨I1.kIn, ?_⟩) he hpl
  exact wpAny_call (run_fnR F hr hx I1 r q)

/-- C(e, ..): a new instance, by the positional promise of __init__ -/
theorem pe_makeRR {x : Str} {e : Expr} {es : List Expr} {t : TA} {p pos : Pos} (M : Mk X.K C g) (F : FnR X.prog X.w X.K X.mg X.base CX n g sp) (hr : Room (n + 1) X.A) (hm : X.mg x = some (.ref C)) (hx : Passes CX X E) (ha : PA X (e :: es) t) (hg : Gl X x := by rfl) (hdb : (x == ("__debug__" : Str)) = false := by decide)
    (he : starEach (e :: es) X.env = (false, eval e X.env) :: starEach es X.env := by rfl) (hpl : (backTo pos (starEach es X.env)).any (·.1) = false := by rfl) : PE X (.Call (.Name x p) (e :: es) [] pos) (tMakeR C sp E t) :=
  pe_makeR M F hr hg hm hx ha hdb he hpl
end
end Ow
end
section
set_option maxHeartbeats 4000000
namespace Ow
open PySem PySem.Spec PyProof.Rows L2 StX

/-- what the walk asks of an own class -/
structure ClsF (K : PySem.W.Frag) (C : Addr) : Prop where
  cl : Cls K C
  ca : PySem.W.findIn K (.ref C) "__class__" = some (some (.builtin "object.__class__"))
  cn : PySem.W.specialIn K (.builtin "object.__class__") "__get__" = some (some (.builtin "getset_descriptor.__get__"))
  ct : PySem.W.takesIn K (.builtin "object.__class__") = some true
  cm : PySem.W.mroIn K C (.type "object") = some true
  ic : PySem.W.isClsIn K C = true
  ty : PySem.W.typeIn K (.ref C) = some (.type "type")
theorem ClsF.tyOf {K : PySem.W.Frag} {C p dx : Addr} {H : Hp} {fs : List (Str × V)} (c : ClsF K C) (h : H p = some (.ins C dx fs)) : TyX K H (.ref p) (.ref C) := .base (.ins h c.cl c.ca c.cn c.ct c.cm)
theorem kit_self {K : PySem.W.Frag} {t : Value} : PySem.W.kitOne K t t = some true := by
  unfold PySem.W.kitOne
  rw [if_pos (beq_self_eq_true t)]
/-- t is not below the own class at C -/
theorem kit_own {K : PySem.W.Frag} {C : Addr} {t : Value} {b : Bool} (c : ClsF K C) (h : PySem.W.subIn K t (.ref C) = some b) (hb : (t == Value.ref C) = false) : PySem.W.kitOne K t (.ref C) = some b := by
  unfold PySem.W.kitOne
  rw [if_neg (by rw [hb]; exact Bool.false_ne_true)]
  show (if ((PySem.W.clsIn K C).isSome && PySem.W.typeIn K (.ref C) == some (.type "type")) = true then PySem.W.subIn K t (.ref C) else none) = some b
  have h1 : (PySem.W.clsIn K C).isSome = true := c.ic
  rw [h1, c.ty]
  rw [if_pos (by rfl)]
  exact h
/-- an instance of C against a built-in type -/
theorem kit_bty {K : PySem.W.Frag} {C : Addr} {T : String} {b : Bool} (hm : PySem.W.kitMeta T = true) (h : PySem.W.subIn K (.ref C) (.type T) = some b) : PySem.W.kitOne K (.ref C) (.type T) = some b := by
  unfold PySem.W.kitOne
  rw [if_neg (by intro z; cases beq_iff_eq.mp z)]
  show (if PySem.W.kitMeta T = true then PySem.W.subIn K (.ref C) (.type T) else none) = some b
  rw [if_pos hm]
  exact h
theorem kit_int_int {K : PySem.W.Frag} : PySem.W.kitOne K (.type "int") (.type "int") = some true := kit_self
theorem kit_int_bool {K : PySem.W.Frag} : PySem.W.kitOne K (.type "int") (.type "bool") = some false := kit_ty (by decide +kernel)

section
variable {X : Cx} {CX : CXT} {k : Nat} {C p g a dx : Addr} {fs : List (Str × V)} {f : Str} {sp : Sp} {E : XK} {e : Expr} {pos : Pos} {ta : TE}
structure PropR (K : PySem.W.Frag) (C : Addr) (f : Str) (p g : Addr) : Prop where
  at_ : PySem.W.findIn K (.ref C) f = some (some (.ref p))
  get : PySem.W.specialIn K (.ref p) "__get__" = some (some (.builtin "property.__get__"))
  tak : PySem.W.takesIn K (.ref p) = some true
  rec_ : ∃ rest, PySem.W.recIn K p "property" = some (.ref g :: rest)
theorem getprop_R {pins : List (Addr × Obj)} {σ : L2.St} {H : Hp} {s : Shared} {Q : VK} {b : Bool} (I : Inv X pins σ H s) (ea : H a = some (.ins C dx fs)) (c : Cls X.K C) (hp : PropR X.K C f p g)
    (F : FnR X.prog X.w X.K X.mg X.base CX k g sp) (hr : Room (k + 1) X.A) (hx : Passes CX X.nox E) (h : sp [.ref a] H Q E) :
    wpAny (model X.prog X.w) X.A (getAttr (.ref a) f b) (EP X pins σ Q) X.xe s := by
  obtain ⟨mA, O, _, _, _, _⟩ := ins_get I.hok ea
  obtain ⟨od, J, _⟩ := O.look
  obtain ⟨rest, hrec⟩ := hp.rec_
  have I1 := I.tok (s.toks + 1)
  have hc : (PySem.W.clsIn X.K C).isSome = true := by
    obtain ⟨cd, hc, _⟩ := PySem.W.any_some c.hd
    rw [hc]
    rfl
  refine PySem.W.get_bind I.kIn J (PySem.W.plainGet_of (c.get f)).1 (PySem.W.findObj_data hc hp.at_ hp.get hp.tak) (PySem.W.plainGet_of (c.get f)).2 (wpAny_call (PySem.W.prop_get (s := { s with toks := s.toks + 1 }) I.kIn hrec ?_))
  refine codeAny_mono (F X.A.in1 X.stack { s with toks := s.toks + 1 } H [.ref a] [.ref a] Q E hr.in1 I1.env0.in1 (.cons rfl .nil) h) fun r s' hq => ?_
  cases r with
  | error er => exact False.elim (hx pins σ H { s with toks := s.toks + 1 } er s' (I1.wish _) hq)
  | ok fl =>
    cases fl with
    | ret u =>
      obtain ⟨v, H', I3, rv, q3⟩ := I1.after hq
      show wpAny _ _ (handedOut u) _ _ _
      rw [PySem.W.handedOut_of (handed_of rv)]
      exact wpAny_pure ⟨v, H', I3, rv, q3⟩
    | next => exact False.elim hq
    | brk => exact False.elim hq
    | cont => exact False.elim hq
def tPropR (C : Addr) (sp : Sp) (E : XK) (ta : TE) : TE := fun σ H Q => ta σ H fun x H1 => ∃ a dx fs, x = .ref a ∧ H1 a = some (.ins C dx fs) ∧ sp [.ref a] H1 Q E
/-- e.f, f a property -/
theorem pe_propR (he : PE X e ta) (c : Cls X.K C) (hp : PropR X.K C f p g) (F : FnR X.prog X.w X.K X.mg X.base CX k g sp) (hr : Room (k + 1) X.A) (hx : Passes CX X.nox E)
    (hab : attributeBase e f X.env (eval e X.env) = eval e X.env := by rfl) : PE X (.Attribute e f pos) (tPropR C sp E ta) := by
  refine ⟨fun pins s σ H Q I h => ?_⟩
  refine attr_of hab (thn (he.run pins s σ H _ I h) fun u s1 ⟨x, H1, I1, rx, a, dx, fs, ex, ea, q⟩ => ?_)
  subst ex
  obtain rfl : u = Value.ref a := rx
  exact getprop_R I1 ea c hp F hr hx q
end

/-- a def of the text, as the top left it: dvs its defaults -/
def FnT (K : PySem.W.Frag) (x qual : Str) (st : Stmt) (dvs : List V) (f : Addr) : Prop := ∃ fd, FunD K x qual (defArgs st) (defBody st) (defScope st) dvs [] f fd
section
variable {P : Program} {w : World} {K : PySem.W.Frag} {mg : Str → Option Value} {base : Heap} {x qual : Str} {st : Stmt} {dvs : List V} {f : Addr}
theorem FnT.kp (F : FnT K x qual st dvs f) : PySem.W.keepIn K (.ref f) = true := F.elim fun _ z => z.kp
/-- a def without defaults that lets nothing out -/
theorem FnT.ok {N ps : List Str} {k : Nat} {sp : Sp} (F : FnT K x qual st [] f) (S : FnScope N ps (defScope st))
    (hb : ∀ (kV doc pm : Value) (an : Option Addr) (cdv ct : Value) (us : List Value), us.length = ps.length → bindArgs (PySem.W.fnOf x qual (defArgs st) (defBody st) (defScope st) .none kV doc pm an cdv ct) ⟨us, []⟩ = pure (ps.zip us))
    (len : ∀ vs H Q E, sp vs H Q E → vs.length = ps.length)
    (hbody : ∀ (cdv : Value) (A : Around) (outer : List Env) (s : Shared) (H : Hp) (vs : List V) (Q : VK) (E : XK), Room k (A.deeper (envOfC qual (defScope st) s.heap.objs.size f cdv)) → sp vs H Q E →
      ∃ t, PSs (cxOf CX0 P w K mg base N qual (defScope st) f cdv A outer s H E).nox (defBody st) t ∧ t { nx := fun _ H' => Q .non H', rt := Q } (start N vs) H) : FnR P w K mg base CX0 (k + 1) f sp := by
  obtain ⟨fd, F⟩ := F
  have ok : FnOk P w K mg base CX0 (k + 1) f fd ps sp := F.ok S len fun cdv A outer s H vs Q E hr hsp => by
    obtain ⟨t, h, q⟩ := hbody cdv A outer s H vs Q E hr hsp
    exact ⟨t, h.nox, q⟩
  have b : Binds K fd ps [] := F.bindsN hb
  have r := ok.raw b .nil
  exact r.imp fun vs H Q E h => by rw [List.append_nil]; exact h
/-- .. with defaults, all of its arguments told; or the last ones filled up: j of the defaults are not used -/
theorem FnT.okD {N ps : List Str} {k n j : Nat} {sp : Sp} (F : FnT K x qual st dvs f) (S : FnScope N ps (defScope st)) (hd : dvs ≠ []) (hn : n + (dvs.length - j) = ps.length)
    (hb : ∀ (T : Addr) (kV doc pm : Value) (an : Option Addr) (cdv ct : Value) (us its : List Value), us.length = n → its.length = dvs.length →
      ∃ k, bindArgs (PySem.W.fnOf x qual (defArgs st) (defBody st) (defScope st) (.ref T) kV doc pm an cdv ct) ⟨us, []⟩ = seqItems? (.ref T) >>= k ∧ k (some its.toArray) = pure (ps.zip (us ++ its.drop j)))
    (len : ∀ vs H Q E, sp vs H Q E → vs.length = ps.length)
    (hbody : ∀ (cdv : Value) (A : Around) (outer : List Env) (s : Shared) (H : Hp) (vs : List V) (Q : VK) (E : XK), Room k (A.deeper (envOfC qual (defScope st) s.heap.objs.size f cdv)) → sp vs H Q E →
      ∃ t, PSs (cxOf CX0 P w K mg base N qual (defScope st) f cdv A outer s H E).nox (defBody st) t ∧ t { nx := fun _ H' => Q .non H', rt := Q } (start N vs) H) : FnR P w K mg base CX0 (k + 1) f (fun vs H Q E => sp (vs ++ dvs.drop j) H Q E) := by
  obtain ⟨fd, F⟩ := F
  have ok : FnOk P w K mg base CX0 (k + 1) f fd ps sp := F.ok S len fun cdv A outer s H vs Q E hr hsp => by
    obtain ⟨t, h, q⟩ := hbody cdv A outer s H vs Q E hr hsp
    exact ⟨t, h.nox, q⟩
  obtain ⟨ds, hds, b⟩ := F.binds1 n j hd hn hb
  exact ok.raw b hds
end
end Ow
end
section
set_option maxHeartbeats 4000000
namespace Ow
open PySem PySem.SeqAt
open AutoSeq1 (wpAny_loadPart')
open MeetsSeq MeetsSeq2 MeetsSeq3 SeqRoads2

section
variable {prog : Program} {w : World} {A : Around} {R : Result → Shared → Prop}
theorem ne_loopG (l b : Addr) (N : Nat) (I : Nat → Shared → Prop) (hl : GQ.ListI prog w A (fun e s' => R (.error e) s') l b N I)
    (fin : ∀ s, I N s → R (.ok (.ret (.bool false))) s) (k : Nat) :
    ∀ i : Nat, N - i = k → i ≤ N → ∀ s, I i s →
      wpAny (model prog w) A.in1 (Builtin.«list.__eq__.loop» ⟨[.ref l, .ref b, rawInt i, rawInt 3], []⟩) (GQ.FinOf prog w A R) (fun e s' => R (.error e) s') s := by
  induction k with
  | zero =>
    intro i hk hi s h
    obtain ⟨items, items2, n, n2, hl1, hb1, hs1, hs2, _⟩ := hl _ _ h
    have hi' : i = N := by omega
    have hR : R (.ok (.ret (.bool false))) s := fin s (hi' ▸ h)
    obtain ⟨hp, g, d, tk, os⟩ := s
    wp_walk using wpAny_loadPart' hl1, wpAny_loadPart' hb1
    have hi1 : items[((i : Nat) : Int).toNat]? = none := by simp; omega
    have hi2 : items2[((i : Nat) : Int).toNat]? = none := by simp; omega
    rw [hi1, hi2]
    wp_walk using wpAny_loadPart' hl1, wpAny_loadPart' hb1
    show R (.ok (.ret (.bool (items.size != items2.size)))) _
    rw [hs1, hs2]
    simpa using hR
  | succ k ih =>
    intro i hk hi s h
    obtain ⟨items, items2, n, n2, hl1, hb1, hs1, hs2, turn⟩ := hl _ _ h
    have hlt : i < items.size := by omega
    have hlt2 : i < items2.size := by omega
    have ht := turn hlt hlt2
    obtain ⟨hp, g, d, tk, os⟩ := s
    wp_walk using wpAny_loadPart' hl1, wpAny_loadPart' hb1
    have hi1 : items[((i : Nat) : Int).toNat]? = some items[i] := by simp [hlt]
    have hi2 : items2[((i : Nat) : Int).toNat]? = some items2[i] := by simp [hlt2]
    have hc : ((i : Int) + 1) = ((i + 1 : Nat) : Int) := by omega
    rw [hi1, hi2]
    refine wpAny_bind (wpAny_mono ht (fun r s2 h2 => ?_) fun _ _ x => x)
    obtain ⟨hr, h2⟩ := h2
    subst hr
    have hrec := ih (i + 1) (by omega) (by omega) s2 h2
    obtain ⟨hp2, g2, d2, tk2, os2⟩ := s2
    wp_walk
    rw [hc]
    exact ⟨plainId_quiet plain_eq_loop _, codeAny_builtin entry_eq_loop (by
      rw [Around.under_plainId plain_eq_loop _]
      exact hrec)⟩

theorem list_neG (l b : Addr) (N : Nat) (I : Nat → Shared → Prop) (hl : GQ.ListI prog w A (fun e s' => R (.error e) s') l b N I)
    (fin : ∀ s, I N s → R (.ok (.ret (.bool false))) s) {s : Shared} (h : I 0 s) :
    wpAny (model prog w) A.in1 (Builtin.«list.__ne__» ⟨[.ref l, .ref b], []⟩) (GQ.FinOf prog w A R) (fun e s' => R (.error e) s') s := by
  obtain ⟨items, items2, n, n2, hl1, hb1, hs1, hs2, _⟩ := hl _ _ h
  have hrec := ne_loopG (A := A) (R := R) l b N I hl fin _ 0 rfl (Nat.zero_le _) s h
  obtain ⟨hp, g, d, tk, os⟩ := s
  have f3 := AutoSeq1.sub_list_list
  have hne : ¬ (items.size != items2.size) = true := by simp [hs1, hs2]
  wp_walk using wpAny_loadPart' hl1, wpAny_loadPart' hb1
  exact ⟨plainId_quiet plain_eq_loop _, codeAny_builtin entry_eq_loop (by
    rw [Around.under_plainId plain_eq_loop _]
    exact hrec)⟩
theorem rn_listG {E : Value → Shared → Prop} {s : Shared} {l b : Addr} {N : Nat} {Q : Value → Shared → Prop} (hu : A.units < cLine) (I : Nat → Shared → Prop) (hl : GQ.ListI prog w A E l b N I)
    (fin : ∀ s, I N s → Q (.bool false) s) (h : I 0 s) : wpAny (model prog w) A (richCompare .NotEq (.ref l) (.ref b)) Q E s := by
  obtain ⟨items, items2, n, n2, hl1, hb1, _, _, _⟩ := hl _ _ h
  refine wpAny_richCompare_same_room (op := .NotEq) ⟨_, hl1, rfl⟩ ⟨_, hb1, rfl⟩ F.slot_list_ne (GQ.call_here F.slot_list_ne ⟨_, hl1, rfl⟩ F.entry_list_ne (F.args_list_ne_2 _ _) ?_) hu
  exact list_neG (R := wants (fun v s' => v ≠ .notImplemented ∧ Q v s') E) l b N I hl (fun s' q => ⟨(fun x => nomatch x), fin s' q⟩) h
end
end Ow
namespace Ow
open PySem PySem.Spec PyProof.Rows L2 StX
section
variable {X : Cx} {n m : Nat} {D D' : Eqv}
/-- two lists, equal item by item: != gives False -/
def rNeL (D : Eqv) : R2 := fun x y H Q => DList D x y H ∧ ∀ H', Ext H H' → Q (.bl false) H'
theorem op_neL (hD : Mon D) (h : EqG X n D) (hr : Room (n + 1) X.A) : OpR X (compareOp .NotEq) (rNeL D) := by
  intro pins s σ H x y v u Q I rx ry hq
  obtain ⟨⟨a, b, xs, ys, rfl, rfl, ha, hb, p⟩, q⟩ := hq
  cases rx
  cases ry
  show wpAny (model X.prog X.w) X.A (richCompare .NotEq (.ref a) (.ref b)) (EP X pins σ Q) X.xe s
  have sb : Sub X (n + 1) X.A := ⟨hr, rfl⟩
  refine rn_listG (N := xs.length) hr.units0 (fun _ s' => LoopI X pins σ H s') (fun i s' q => ?_) (fun s' q' => ?_) ⟨H, I, Ext.rfl'⟩
  · obtain ⟨H1, I1, e1⟩ := id q
    obtain ⟨z, its, k, r, e⟩ := I1.hok a _ (e1 _ _ ha)
    obtain ⟨z2, its2, k2, r2, e2⟩ := I1.hok b _ (e1 _ _ hb)
    refine ⟨its.toArray, its2.toArray, k, k2, e, e2, by rw [List.size_toArray, ← r.length], by rw [List.size_toArray, ← r2.length, ← p.1], fun h1 h2 => ?_⟩
    exact turnG hD h sb p r r2 i h1 h2 s' q
  · obtain ⟨H1, I1, e1⟩ := q'
    exact ⟨.bl false, H1, I1, rfl, q H1 e1⟩
/-- instances of C by their own ==, a positional promise -/
theorem eqG_insR {CX : CXT} {C f : Addr} {R : Addr → Addr → Hp → Prop} {E : XK} (F : FnR X.prog X.w X.K X.mg X.base CX n f (spEq R))
    (hs : PySem.W.findIn X.K (.ref C) "__eq__" = some (some (.ref f))) (hf : PySem.W.isFn X.K (.ref f) = true) (hx : Passes CX X E) : EqG X n (DIns C R) := by
  have rc : RcG X n (DIns C R) := by
    intro A pins s σ H x y u v sb I rx ry d
    obtain ⟨a, b, dx, dy, fs, gs, rfl, rfl, ha, hb', hr⟩ := d
    cases rx
    cases ry
    obtain ⟨mA, J, _⟩ := ins_get I.hok ha
    obtain ⟨mB, J', _⟩ := ins_get I.hok hb'
    obtain ⟨od, J, _⟩ := J.look
    obtain ⟨od', J', _⟩ := J'.look
    obtain ⟨m, hF⟩ := I.fr
    refine PySem.W.cmp_K (op := .Eq) (tb := .ref C) sb.room.units0 hF I.ok.mod.kin J J'.type (by simp [PySem.W.notFirst]) hs hf ?_
    have hsp : spEq R [.ref a, .ref b] H (fun v H' => v = .bl true ∧ Ext H H') E := ⟨a, b, rfl, hr, fun H' e => ⟨rfl, e⟩⟩
    have e0 : Env0 X.prog X.w X.K X.mg X.base A X.stack s H := by
      have e := I.env0
      exact ⟨by rw [sb.fr]; exact e.frames, e.mod, e.bs, e.bsz, e.funs, e.frf, e.hok, e.bare⟩
    have r2 : Vals [V.ref a, V.ref b] [Value.ref a, Value.ref b] := .cons rfl (.cons rfl .nil)
    refine wpAny_call (codeAny_mono (F A X.stack s H [.ref a, .ref b] [.ref a, .ref b] _ E sb.room e0 r2 hsp) fun r s' hq => ?_)
    cases r with
    | error e => exact hx pins σ H s e s' I hq
    | ok fl =>
      cases fl with
      | ret w =>
        obtain ⟨z, H', I', rz, ez, ex⟩ := I.after hq
        subst ez
        cases rz
        exact ⟨rfl, H', I', ex⟩
      | next => exact False.elim hq
      | brk => exact False.elim hq
      | cont => exact False.elim hq
  exact rc.eqG fun _ _ _ d => let ⟨a, b, _, _, _, _, hx, hy, _⟩ := d; ⟨a, b, hx, hy⟩
end
end Ow
end
section
set_option maxHeartbeats 4000000
/-! Defs that are called while nothing is being shown (repr of containers asks it), and the end of a law whose def asks it. -/
namespace Ow
open PySem PySem.Spec PyProof.Rows L2 StX

/-- a promise by positional values, of calls while no repr runs -/
def FnG (P : Program) (w : World) (K : PySem.W.Frag) (mg : Str → Option Value) (base : Heap) (CX : CXT) (k : Nat) (f : Addr) (sp : Sp) : Prop :=
  ∀ (A : Around) (outer : List Env) (s : Shared) (H : Hp) (us : List Value) (vs : List V) (Q : VK) (E : XK), Room k A → A.guards = some [] → Env0 P w K mg base A outer s H → Vals vs us → sp vs H Q E →
    codeAny (model P w) A (.call (.ref f) ⟨us, []⟩) (CR CX outer P w H s Q E) s
section
variable {P : Program} {w : World} {K : PySem.W.Frag} {mg : Str → Option Value} {base : Heap} {CX : CXT} {j k : Nat} {f : Addr} {sp sp' : Sp} {x qual : Str} {st : Stmt}
theorem FnG.mono (F : FnG P w K mg base CX j f sp) (h : j ≤ k) : FnG P w K mg base CX k f sp := fun A outer s H us vs Q E hr => F A outer s H us vs Q E (hr.mono h)
theorem FnG.imp (F : FnG P w K mg base CX k f sp) (h : ∀ vs H Q E, sp' vs H Q E → sp vs H Q E) : FnG P w K mg base CX k f sp' := fun A outer s H us vs Q E hr g e0 r hs => F A outer s H us vs Q E hr g e0 r (h _ _ _ _ hs)
theorem FnT.okG {N ps : List Str} (F : FnT K x qual st [] f) (S : FnScope N ps (defScope st))
    (hb : ∀ (kV doc pm : Value) (an : Option Addr) (cdv ct : Value) (us : List Value), us.length = ps.length → bindArgs (PySem.W.fnOf x qual (defArgs st) (defBody st) (defScope st) .none kV doc pm an cdv ct) ⟨us, []⟩ = pure (ps.zip us))
    (len : ∀ vs H Q E, sp vs H Q E → vs.length = ps.length)
    (hbody : ∀ (cdv : Value) (A : Around) (outer : List Env) (s : Shared) (H : Hp) (vs : List V) (Q : VK) (E : XK), Room k (A.deeper (envOfC qual (defScope st) s.heap.objs.size f cdv)) → A.guards = some [] → sp vs H Q E →
      ∃ t, PSs (cxOf CX0 P w K mg base N qual (defScope st) f cdv A outer s H E).nox (defBody st) t ∧ t { nx := fun _ H' => Q .non H', rt := Q } (start N vs) H) : FnG P w K mg base CX0 (k + 1) f sp := by
  obtain ⟨fd, F⟩ := F
  intro A outer s H us vs Q E hr hg e0 r hs
  have b := F.bindsN hb
  obtain ⟨oc, od, dV, kV, doc, pm, an, cdv, ct, osl, rfl, lk, hcd, _, _⟩ := F.ex
  have hv := len _ _ _ _ hs
  have hu : us.length = ps.length := r.length.symm.trans hv
  have b1 : BindsTo s (PySem.W.fnOf x qual (defArgs st) (defBody st) (defScope st) dV kV doc pm an cdv ct) ⟨us, []⟩ (ps.zip us) := by
    have := b s us (e0.mod.kin.keeps fun b o e => (e0.bs b o e).1) (by rw [List.append_nil]; exact hu)
    rw [List.append_nil] at this
    exact this
  refine LamX.run_ofS lk hcd S hr e0 b1 r hv fun hr2 => ?_
  obtain ⟨t, h, q⟩ := hbody cdv A outer s H vs Q E hr2 hg hs
  exact ⟨t, h.nox, q⟩
end
section
variable {X : Cx} {CX : CXT} {n : Nat} {sp : Sp} {E : XK}
theorem pe_callG {x : Str} {f : Addr} {e : Expr} {es : List Expr} {t : TA} {p pos : Pos} (F : FnG X.prog X.w X.K X.mg X.base CX n f sp) (hr : Room n X.A) (gd : X.A.guards = some []) (hm : X.mg x = some (.ref f)) (hk : PySem.W.keepIn X.K (.ref f) = true) (hx : Passes CX X E)
    (ha : PA X (e :: es) t) (hg : Gl X x := by rfl) (hdb : (x == ("__debug__" : Str)) = false := by decide) (he : starEach (e :: es) X.env = (false, eval e X.env) :: starEach es X.env := by rfl) (hpl : (backTo pos (starEach es X.env)).any (·.1) = false := by rfl) :
    PE X (.Call (.Name x p) (e :: es) [] pos) (tCallR sp E t) := by
  refine ⟨fun pins s σ H Q I h => ?_⟩
  refine wpAny_Call_Name_kw (ld_glob I hg hm ?_ hdb)
  refine PySem.W.callWith_K (h₀ := X.base) I.ok.mod.kin hk (thn (ha.run pos pins s σ H _ I h) fun us s1 ⟨vs, H1, I1, r, q⟩ => ⟨I1.kIn, ?_⟩) he hpl
  refine wpAny_call (codeAny_mono (F X.A X.stack s1 H1 us vs Q E hr gd I1.env0 r q) fun r s' hq => ?_)
  cases r with
  | error e => exact hx pins σ H1 s1 e s' I1 hq
  | ok fl =>
    cases fl with
    | ret u => exact I1.after hq
    | next => exact False.elim hq
    | brk => exact False.elim hq
    | cont => exact False.elim hq

/-- repr of data: its text -/
def rReprD (K : PySem.W.Frag) : List V → Hp → VK → Prop := fun xs H Q => ∃ (x : V) (d : PyData), xs = [x] ∧ Dp K H x d ∧ d.showable = true ∧ d.hasDict = false ∧ d.depth ≤ 8 ∧ d.shown.length ≤ sizeLine ∧ Q (.str d.shown) H
theorem call_reprD (gd : X.A.guards = some []) (hu : X.A.units + 64 < cLine) : CallR X (.builtin "repr") (rReprD X.K) := by
  intro pins s σ H xs us Q I r h
  obtain ⟨x, d, rfl, hd, hs, hnd, hdp, hsz, q⟩ := h
  obtain ⟨u, rfl, ru⟩ := vals1 r
  have fin : ∀ (h' : Heap) (tk : Nat) (u : Tok), (∀ b o, s.heap.get? b = some o → h'.get? b = some o) → EP X pins σ Q (.str d.shown u) { s with heap := h', toks := tk } := fun h' tk u k => ⟨.str d.shown, H, I.kept (t' := tk) k, ⟨u, rfl⟩, q⟩
  cases hd with
  | non => cases ru; exact PySem.P.repr_of_none (fin s.heap _ _ fun _ _ e => e)
  | bl b => cases ru; exact PySem.P.repr_of_bool (by cases b <;> exact fin s.heap _ _ fun _ _ e => e)
  | int i =>
    obtain ⟨t, rfl⟩ := ru
    have hi : i.natAbs.log2 < 1920 := of_decide_eq_true hs
    exact PySem.P.repr_of_int hi (fin s.heap _ _ fun _ _ e => e)
  | str z => obtain ⟨t, rfl⟩ := ru; exact PySem.P.repr_of_str (fin s.heap _ _ fun _ _ e => e) hsz
  | @lst a zs ds hq ha =>
    cases ru
    obtain ⟨as, rd⟩ := Dp.reads I _ _ _ (.lst hq ha) rfl
    exact repr_of_reads' rd hs (PyData.noDict_hsm hnd) gd (by omega) (fun _ _ e => e) (fun h' u tk k => fin h' tk u k) hsz
  | @tup a zs ds hq ha =>
    cases ru
    obtain ⟨as, rd⟩ := Dp.reads I _ _ _ (.tup hq ha) rfl
    exact repr_of_reads' rd hs (PyData.noDict_hsm hnd) gd (by omega) (fun _ _ e => e) (fun h' u tk k => fin h' tk u k) hsz
end

/-! ### the end of a law whose def wants to know that nothing is being shown -/
section
variable {P : Program} {w : World} {K : PySem.W.Frag} {mg mb : Str → Option Value} {k : Nat} {fa a : Addr} {sp : Sp} {s1 : Shared} {vs : List Value} {ns : List Int}
/-- the call, from one abstract heap that tracks the script alone, or nothing -/
theorem end_from (KX : K.In s1.heap) (hns : s1.heap.Ns mainGlobals mg) (hb : s1.heap.Ns builtinsNs mb) (hbb : ∀ x : Str, x ≠ "__name__" → mb x = bootBuiltins x) (hlim : s1.heap.NoLimit) (hg : s1.gens = #[]) (hr : Room k callerA)
    (F : ∀ base : Heap, K.In base → base.Ns mainGlobals mg → FnG P w K mg base CX0 k fa sp) {H : Hp} (hO : Only H) (hok : HOk P w H s1.heap) (dom : ∀ b u, H b = some u → K.lookup b = none ∧ ∃ o items n, s1.heap.get? b = some o ∧ o.data = .seq items n)
    (hsp : sp [.ref a] H (fun v _ => v = .bl true) fun _ _ _ => False) :
    codeAny (model P w) callerA (.call (.ref fa) ⟨[.ref a], []⟩) (fun r s' => r = .ok (.ret (.bool true)) ∧ OldK s1.heap s'.heap ∧ s'.os = s1.os ∧ AllBare s'.gens) s1 := by
  let base := hidT s1.heap H
  have dicts : ∀ {b : Addr} {o : Obj} {es : Array DictEntry} {ep : Nat}, s1.heap.get? b = some o → o.data = .dict es ep → base.get? b = some o := fun {b o es ep} e d => by
    refine hidT_get e ?_
    cases q : H b with
    | none => rfl
    | some u =>
      obtain ⟨_, o2, items, n, e2, d2⟩ := dom b u q
      rw [e2] at e
      cases e
      rw [d2] at d
      cases d
  have names : ∀ {b : Addr} {m : Str → Option Value}, s1.heap.Ns b m → base.Ns b m := fun z => by
    obtain ⟨o, es, ep, e, d, r⟩ := z
    exact ⟨o, es, ep, dicts e d, d, r⟩
  have hK : K.In base := fun b o e => by
    refine hidT_get (KX b o e) ?_
    cases q : H b with
    | none => rfl
    | some u =>
      have z := (dom b u q).1
      rw [e] at z
      cases z
  have lim : base.NoLimit := by
    obtain ⟨m, h1, h2⟩ := hlim
    exact ⟨m, names h1, h2⟩
  have e0 : Env0 P w K mg base callerA [] s1 H :=
    { frames := rfl, mod := ⟨hK, names hns, ⟨mb, names hb, hbb⟩, lim⟩, bs := fun b o e => of_hidT e, bsz := Nat.le_of_eq (hidT_size _ _), funs := trivial, frf := fun b hb => (List.not_mem_nil hb).elim, hok := hok, bare := .of_eq hg }
  refine codeAny_mono (F base hK (names hns) callerA [] s1 H [.ref a] [.ref a] _ _ hr rfl e0 (.cons rfl .nil) hsp) fun r s' h => ?_
  cases r with
  | error e => exact False.elim h
  | ok fl =>
    cases fl with
    | ret u =>
      obtain ⟨v, H2, os, bare, un, ok2, rv, q⟩ := h
      subst q
      cases rv
      refine ⟨rfl, OldK.of_keep fun b o e => ?_, os, bare⟩
      cases q : H b with
      | none => exact un.keep b o e q (fun z => List.not_mem_nil z) (fun z => List.not_mem_nil z)
      | some u =>
        rcases hO b with z | ⟨ob, xs, z⟩
        · rw [q] at z
          cases z
        · have e1 := (hok b _ z).1
          have e2 := (ok2 b _ (un.frzs b ob _ z)).1
          rw [e] at e1
          cases e1
          exact e2
    | next => exact False.elim h
    | brk => exact False.elim h
    | cont => exact False.elim h
theorem end_callG (KX : K.In s1.heap) (hns : s1.heap.Ns mainGlobals mg) (hb : s1.heap.Ns builtinsNs mb) (hbb : ∀ x : Str, x ≠ "__name__" → mb x = bootBuiltins x) (hlim : s1.heap.NoLimit) (hg : s1.gens = #[]) (hr : Room k callerA)
    (ha : s1.heap.get? a = some { cls := .type "list", data := .seq vs.toArray }) (hi : IntsAre vs ns) (hl : ns.length ≤ sizeLine) (F : ∀ base : Heap, K.In base → base.Ns mainGlobals mg → FnG P w K mg base CX0 k fa sp)
    (hsp : ∀ H : Hp, Only H → SqL K H a (ns.map V.int) → sp [.ref a] H (fun v _ => v = .bl true) fun _ _ _ => False) :
    codeAny (model P w) callerA (.call (.ref fa) ⟨[.ref a], []⟩) (fun r s' => r = .ok (.ret (.bool true)) ∧ OldK s1.heap s'.heap ∧ s'.os = s1.os ∧ AllBare s'.gens) s1 := by
  have rv := vals_ints hi
  have hl2 : (ns.map V.int).length ≤ sizeLine := by rw [List.length_map]; exact hl
  cases hk : K.lookup a with
  | some o =>
    have e := KX a o hk
    rw [ha] at e
    cases e
    refine end_from KX hns hb hbb hlim hg hr F (H := fun _ => none) (fun _ => .inl rfl) (fun b u z => by cases z) (fun b u z => by cases z) (hsp _ (fun _ => .inl rfl) ?_)
    exact .inr ⟨_, vs.toArray, _, hk, rfl, rfl, rfl, by rw [List.size_toArray, hi.length]; exact hl, by simpa using rv⟩
  | none =>
    let o : Obj := { cls := .type "list", data := .seq vs.toArray }
    let H : Hp := fun b => if b = a then some (.frz o (.lst (ns.map V.int))) else none
    have H1 : H a = some (.frz o (.lst (ns.map V.int))) := if_pos rfl
    have H0 : ∀ b u, H b = some u → b = a ∧ u = .frz o (.lst (ns.map V.int)) := fun b u z => by
      by_cases e : b = a
      · subst e
        rw [H1] at z
        cases z
        exact ⟨rfl, rfl⟩
      · have z0 : H b = none := if_neg e
        rw [z0] at z
        cases z
    have hO : Only H := fun b => by
      by_cases e : b = a
      · subst e; exact .inr ⟨_, _, H1⟩
      · exact .inl (if_neg e)
    refine end_from KX hns hb hbb hlim hg hr F (H := H) hO (fun b u z => ?_) (fun b u z => ?_) (hsp _ hO (.inl (.inr ⟨_, H1⟩)))
    · obtain ⟨rfl, rfl⟩ := H0 b u z
      exact ⟨ha, hl2, vs, _, rv, ha⟩
    · obtain ⟨rfl, rfl⟩ := H0 b u z
      exact ⟨hk, _, _, _, ha, rfl⟩
end
theorem walk_ofG {l : PySem.W.OpenLaw} {n k : Nat} {q : Program} {loose : List Str} {XP : (Str → Option Value) → Heap → Prop} {YP : World → Heap → Prop} {d : DefRec} {K : Params → PySem.W.Frag} {sp : World → Sp}
    (hn : l.most = some n) (hn2 : n ≤ sizeLine) (hdf : d.params.defaults = []) (hr : Room k callerA) (hY : ∀ (w : World) (h : Heap), YP w h → (K w.params).In h)
    (F : ∀ (w : World) (mg : Str → Option Value) (fa : Addr) (h : Heap), (K w.params).In h → h.Ns mainGlobals mg → mg d.name = some (.ref fa) →
      ∀ base : Heap, (K w.params).In base → base.Ns mainGlobals mg → FnG l.prog w (K w.params) mg base CX0 k fa (sp w))
    (hsp : ∀ (w : World) (H : Hp) (a : Addr) (ns : List Int), ns.length ≤ n → Only H → SqL (K w.params) H a (ns.map V.int) → sp w [.ref a] H (fun v _ => v = .bl true) fun _ _ _ => False) :
    PySem.W.WalkO q loose XP YP l.row.toRowW d [] (fun f vs => PySem.call f vs) := by
  refine Att.attach_call hn hdf fun w s0 s1 mg mb fa o pm cd doc a vs ns G Y ho hd hcd hmg hobj hints hlen hg => ?_
  have KX := hY w _ Y
  exact end_callG KX G.T.g G.T.b G.T.builtins G.T.nolimit hg hr hobj hints (Nat.le_trans hlen hn2) (F w mg fa _ KX G.T.g hmg) fun H hO hS => hsp w H a ns hlen hO hS
end Ow
end
section
set_option maxHeartbeats 4000000
/-! Own errors with a def of their own that keeps the fields: raise C(e), raise C(e, e'). -/
namespace Ow
open PySem PySem.Spec PyProof.Rows L2 StX
section
variable {P : Program} {w : World} {K : PySem.W.Frag} {mg : Str → Option Value} {base : Heap} {x qual : Str} {st : Stmt} {f : Addr}
/-- a def without defaults that may let errors out -/
theorem FnT.okX {N ps : List Str} {k : Nat} {sp : Sp} (F : FnT K x qual st [] f) (S : FnScope N ps (defScope st))
    (hb : ∀ (kV doc pm : Value) (an : Option Addr) (cdv ct : Value) (us : List Value), us.length = ps.length → bindArgs (PySem.W.fnOf x qual (defArgs st) (defBody st) (defScope st) .none kV doc pm an cdv ct) ⟨us, []⟩ = pure (ps.zip us))
    (len : ∀ vs H Q E, sp vs H Q E → vs.length = ps.length)
    (hbody : ∀ (cdv : Value) (A : Around) (outer : List Env) (s : Shared) (H : Hp) (vs : List V) (Q : VK) (E : XK), Room k (A.deeper (envOfC qual (defScope st) s.heap.objs.size f cdv)) → sp vs H Q E →
      ∃ t, PSs (cxOf (CX P w) P w K mg base N qual (defScope st) f cdv A outer s H E) (defBody st) t ∧ t { nx := fun _ H' => Q .non H', rt := Q } (start N vs) H) : FnR P w K mg base (CX P w) (k + 1) f sp := by
  obtain ⟨fd, F⟩ := F
  have ok : FnOk P w K mg base (CX P w) (k + 1) f fd ps sp := F.ok S len hbody
  have b : Binds K fd ps [] := F.bindsN hb
  exact (ok.raw b .nil).imp fun vs H Q E h => by rw [List.append_nil]; exact h
/-- .. with defaults -/
theorem FnT.okDX {N ps : List Str} {k n j : Nat} {sp : Sp} {dvs : List V} (F : FnT K x qual st dvs f) (S : FnScope N ps (defScope st)) (hd : dvs ≠ []) (hn : n + (dvs.length - j) = ps.length)
    (hb : ∀ (T : Addr) (kV doc pm : Value) (an : Option Addr) (cdv ct : Value) (us its : List Value), us.length = n → its.length = dvs.length →
      ∃ k, bindArgs (PySem.W.fnOf x qual (defArgs st) (defBody st) (defScope st) (.ref T) kV doc pm an cdv ct) ⟨us, []⟩ = seqItems? (.ref T) >>= k ∧ k (some its.toArray) = pure (ps.zip (us ++ its.drop j)))
    (len : ∀ vs H Q E, sp vs H Q E → vs.length = ps.length)
    (hbody : ∀ (cdv : Value) (A : Around) (outer : List Env) (s : Shared) (H : Hp) (vs : List V) (Q : VK) (E : XK), Room k (A.deeper (envOfC qual (defScope st) s.heap.objs.size f cdv)) → sp vs H Q E →
      ∃ t, PSs (cxOf (CX P w) P w K mg base N qual (defScope st) f cdv A outer s H E) (defBody st) t ∧ t { nx := fun _ H' => Q .non H', rt := Q } (start N vs) H) : FnR P w K mg base (CX P w) (k + 1) f (fun vs H Q E => sp (vs ++ dvs.drop j) H Q E) := by
  obtain ⟨fd, F⟩ := F
  have ok : FnOk P w K mg base (CX P w) (k + 1) f fd ps sp := F.ok S len hbody
  obtain ⟨ds, hds, b⟩ := F.binds1 n j hd hn hb
  exact ok.raw b hds
/-- an own error's class, whose __init__ stands at g -/
structure ErrF (K : PySem.W.Frag) (C g : Addr) : Prop where
  ox : OexC K C
  iC : PySem.W.findIn K (.ref C) "__init__" = some (some (.ref g))
  tI : PySem.W.typeIn K (.ref g) = some (.type "function")
/-- __init__(self, v): self.f = v -/
def spErr1 (C : Addr) (n : Str) : Sp := fun vs H Q _ => ∃ (a : Addr) (v : V), vs = [.ref a, v] ∧ H a = some (exo a C none) ∧ ∀ dx, H dx = none → dx ≠ a → Q .non (upd (upd H dx (exd dx [(n, v)])) a (exo a C (some dx)))
/-- __init__(self, v, u): self.f = v; self.g = u -/
def spErr2 (C : Addr) (n m : Str) : Sp := fun vs H Q _ => ∃ (a : Addr) (v u : V), vs = [.ref a, v, u] ∧ H a = some (exo a C none) ∧ ∀ dx, H dx = none → dx ≠ a → Q .non (upd (upd H dx (exd dx [(m, u), (n, v)])) a (exo a C (some dx)))
theorem raise_heap {H : Hp} {a d : Addr} {C : Addr} {fs : List (Str × V)} (ha : H a = none) (hne : d ≠ a) :
    upd (del (upd (upd (upd H a (exo a C none)) d (exd d fs)) a (exo a C (some d))) a) d (.xd fs) = upd H d (.xd fs) := by
  funext b
  by_cases e : b = d
  · subst e; rw [upd_same, upd_same]
  · rw [upd_ne e, upd_ne e]
    by_cases e2 : b = a
    · subst e2
      rw [ha]
      exact if_pos rfl
    · show (if b = a then none else _) = _
      rw [if_neg e2, upd_ne e2, upd_ne e, upd_ne e2]
/-- what making such an error asks: the reading of pmk_oex, its fields told -/
theorem err1_made {Q : XK} {H1 : Hp} {v : V} {C : Addr} {n : Str} (k : ∀ d, H1 d = none → Q (.ref C) (some d) (upd H1 d (.xd [(n, v)]))) :
    [v].length ≤ 1000 ∧ ∀ a, H1 a = none → spErr1 C n (.ref a :: ([v] ++ [])) (upd H1 a (exo a C none)) (fun u H2 => u = .non ∧ ∃ (d : Addr) (fs : List (Str × V)), H2 a = some (exo a C (some d)) ∧ H2 d = some (exd d fs) ∧ H1 d = none ∧ Q (.ref C) (some d) (upd (del H2 a) d (.xd fs))) (fun _ _ _ => False) := by
  refine ⟨Nat.le_of_ble_eq_true rfl, fun a ha => ⟨a, v, rfl, upd_same, fun dx hdx ne => ⟨rfl, dx, _, upd_same, by rw [upd_ne ne]; exact upd_same, by rw [upd_ne ne] at hdx; exact hdx, ?_⟩⟩⟩
  rw [raise_heap ha ne]
  refine k dx ?_
  rw [upd_ne ne] at hdx
  exact hdx
theorem err2_made {Q : XK} {H1 : Hp} {v u : V} {C : Addr} {n m : Str} (k : ∀ d, H1 d = none → Q (.ref C) (some d) (upd H1 d (.xd [(m, u), (n, v)]))) :
    [v, u].length ≤ 1000 ∧ ∀ a, H1 a = none → spErr2 C n m (.ref a :: ([v, u] ++ [])) (upd H1 a (exo a C none)) (fun u H2 => u = .non ∧ ∃ (d : Addr) (fs : List (Str × V)), H2 a = some (exo a C (some d)) ∧ H2 d = some (exd d fs) ∧ H1 d = none ∧ Q (.ref C) (some d) (upd (del H2 a) d (.xd fs))) (fun _ _ _ => False) := by
  refine ⟨Nat.le_of_ble_eq_true rfl, fun a ha => ⟨a, v, u, rfl, upd_same, fun dx hdx ne => ⟨rfl, dx, _, upd_same, by rw [upd_ne ne]; exact upd_same, by rw [upd_ne ne] at hdx; exact hdx, ?_⟩⟩⟩
  rw [raise_heap ha ne]
  refine k dx ?_
  rw [upd_ne ne] at hdx
  exact hdx
/-- a def without defaults that lets nothing out: its promise by binds, for makings of errors -/
theorem FnT.okB {N ps : List Str} {k : Nat} {sp : Sp} (F : FnT K x qual st [] f) (S : FnScope N ps (defScope st))
    (hb : ∀ (kV doc pm : Value) (an : Option Addr) (cdv ct : Value) (us : List Value), us.length = ps.length → bindArgs (PySem.W.fnOf x qual (defArgs st) (defBody st) (defScope st) .none kV doc pm an cdv ct) ⟨us, []⟩ = pure (ps.zip us))
    (len : ∀ vs H Q E, sp vs H Q E → vs.length = ps.length)
    (hbody : ∀ (cdv : Value) (A : Around) (outer : List Env) (s : Shared) (H : Hp) (vs : List V) (Q : VK) (E : XK), Room k (A.deeper (envOfC qual (defScope st) s.heap.objs.size f cdv)) → sp vs H Q E →
      ∃ t, PSs (cxOf CX0 P w K mg base N qual (defScope st) f cdv A outer s H E).nox (defBody st) t ∧ t { nx := fun _ H' => Q .non H', rt := Q } (start N vs) H) : ∃ fd, FnOk P w K mg base CX0 (k + 1) f fd ps sp ∧ Binds K fd ps [] := by
  obtain ⟨fd, F⟩ := F
  exact ⟨fd, F.ok S len fun cdv A outer s H vs Q E hr hsp => by
    obtain ⟨t, h, q⟩ := hbody cdv A outer s H vs Q E hr hsp
    exact ⟨t, h.nox, q⟩, F.bindsN hb⟩
/-- v is no integer (a bool is none) -/
def NoInt (K : PySem.W.Frag) (H : Hp) (v : V) : Prop := (∃ b, v = .bl b) ∨ ∃ T : String, TyX K H v (.type T) ∧ PySem.W.kitOne K (.type T) (.type "int") = some false
theorem kit_bool_int {K : PySem.W.Frag} : PySem.W.kitOne K (.type "bool") (.type "int") = some true := kit_ty (by decide +kernel)
theorem NoInt.non {H : Hp} : NoInt K H .non := .inr ⟨_, .base .non, kit_ty (by decide +kernel)⟩
theorem NoInt.bl {H : Hp} {b : Bool} : NoInt K H (.bl b) := .inl ⟨b, rfl⟩
theorem NoInt.str {H : Hp} {z : Str} : NoInt K H (.str z) := .inr ⟨_, .base (.str z), kit_ty (by decide +kernel)⟩
theorem NoInt.lst {H : Hp} {l : Addr} {xs : List V} (h : H l = some (.lst xs)) : NoInt K H (.ref l) := .inr ⟨_, .base (.lst h), kit_ty (by decide +kernel)⟩
theorem NoInt.tup {H : Hp} {l : Addr} {xs : List V} (h : H l = some (.tup xs)) : NoInt K H (.ref l) := .inr ⟨_, .base (.tup h), kit_ty (by decide +kernel)⟩
theorem NoInt.dict {H : Hp} {l : Addr} {kvs : List (Key × V)} (h : H l = some (.dK kvs)) : NoInt K H (.ref l) := .inr ⟨_, .base (.dK h), kit_ty (by decide +kernel)⟩
/-- is_int of any value -/
def spIntV (K : PySem.W.Frag) : Sp := fun vs H Q _ => ∃ v, vs = [v] ∧ ((∃ i : Int, v = .int i ∧ Q (.bl true) H) ∨ (NoInt K H v ∧ Q (.bl false) H))
/-- the error of the class at B lets out, with one field -/
def Out1 (B : Addr) (n : Str) (H : Hp) (E : XK) (v : V) : Prop := ∀ d, H d = none → E (.ref B) (some d) (upd H d (.xd [(n, v)]))
theorem TyOf.same {H H' : Hp} {v : V} {t : Value} (h : TyOf K H v t) (m : ∀ b o, H b = some o → H' b = some o) : TyOf K H' v t := by
  cases h with
  | non => exact .non
  | bl x => exact .bl x
  | int i => exact .int i
  | str x => exact .str x
  | flt x => exact .flt x
  | lst h => exact .lst (m _ _ h)
  | frz h => exact .frz (m _ _ h)
  | tup h => exact .tup (m _ _ h)
  | dK h => exact .dK (m _ _ h)
  | dT h => exact .dT (m _ _ h)
  | ins h c a b d e => exact .ins (m _ _ h) c a b d e
theorem TyX.same {H H' : Hp} {v : V} {t : Value} (h : TyX K H v t) (m : ∀ b o, H b = some o → H' b = some o) : TyX K H' v t := by
  cases h with
  | base h => exact .base (TyOf.same h m)
  | byt b => exact .byt b
  | set h => exact .set (m _ _ h)
  | kList h c => exact .kList h c
  | kTuple h c => exact .kTuple h c
  | kDict h c => exact .kDict h c
  | fTuple h => exact .fTuple (m _ _ h)
  | fDict h => exact .fDict (m _ _ h)
theorem NoInt.same {H H' : Hp} {v : V} (h : NoInt K H v) (m : ∀ b o, H b = some o → H' b = some o) : NoInt K H' v := by
  rcases h with h | ⟨t, h, q⟩
  · exact .inl h
  · exact .inr ⟨t, TyX.same h m, q⟩
/-- .. from a heap that has grown -/
def OutS (B : Addr) (n : Str) (H : Hp) (E : XK) (v : V) : Prop := ∀ H', (∀ b o, H b = some o → H' b = some o) → Out1 B n H' E v
end
/-- what a callee lets out leaves the def -/
theorem passUp {X : Cx} {E : XK} (tk : Takes X fun cls d _ H => E cls d H) : Passes (CX X.prog X.w) X E := fun pins σ H s e s' I h => passAt tk σ pins H s e s' I h
end Ow
end
section
set_option maxHeartbeats 4000000
/-! isinstance of a caught own error that keeps fields; what a def that tries its argument tells. -/
namespace Ow
open PySem PySem.Spec PyProof.Rows L2 StX
section
variable {X : Cx} {a : Addr} {oe : Obj} {cls : Value} {d : Option Addr} {pn : List (Addr × Obj)}
/-- isinstance(error, T): error the caught one, with its fields at dd -/
def rIsEX (K : PySem.W.Frag) (a : Addr) (cls : Value) (d : Option Addr) : List V → Hp → VK → Prop := fun xs H Q => ∃ (c : V) (cv : Value) (b : Bool) (D dd : Addr) (fs : List (Str × V)),
  xs = [.ref a, c] ∧ cls = .ref D ∧ ExcC K D ∧ (PySem.W.clsIn K D).isSome = true ∧ d = some dd ∧ H dd = some (.xd fs) ∧ (∀ u, RelV c u → u = cv) ∧ PySem.W.kitOne K (.ref D) cv = some b ∧ Q (.bl b) H
theorem call_isEX (hz : Zc cls d oe) (hf : ∃ vs, oe.data = .fields vs) : CallR (X.suite a ((a, oe) :: pn)) (.builtin "isinstance") (rIsEX X.K a cls d) := by
  intro pins s σ H xs us Q I r h
  obtain ⟨c, cv, b, D, dd, fs, rfl, rfl, C, hci, rfl, hdd, hcv, hk, q⟩ := h
  cases r with
  | cons rx r2 =>
    cases r2 with
    | cons rc r3 =>
      cases r3
      cases rx
      cases hcv _ rc
      obtain ⟨hget, _⟩ := I.pin (a, oe) (List.mem_append.mpr (.inl List.mem_cons_self))
      obtain ⟨vs, hv⟩ := hf
      obtain ⟨z1, z2⟩ := hz
      obtain ⟨od, hod⟩ : ∃ o, s.heap.get? dd = some o := by
        have := I.hok dd _ hdd
        obtain ⟨mA, ⟨o, _, _, e, _⟩, _⟩ := this
        exact ⟨o, e⟩
      have J : PySem.W.InstAt s.heap a oe D (some od) := ⟨hget, z1, by unfold PySem.W.notCls; rw [hv], by rw [z2]; exact hod⟩
      refine PySem.W.kia_one (PySem.W.kitx_exc (x := a) (ox := oe) (od := some od) hci C.hg C.hk C.hs C.ha C.hn C.ht C.hm) I.kIn J hk (fun z => by cases z) fun tk => ?_
      exact ⟨.bl b, H, I.kept fun _ _ e => e, rfl, q⟩
end
/-- return (z, ask()), ask a handed lambda that may raise -/
theorem ret_told {X : Cx} {f c' : Addr} {q z : Str} {tl : XK → Hp → VK → Prop} {W : WX} {n : Str} {j ct : Nat} {p0 p1 p2 pt ps : Pos}
    (act : ∀ E : XK, (∀ cls d σ' H', E cls d H' → W cls d σ' H') → PE X (.Call (.Name n p1) [] [] p2) (fun σZ HZ Q => σZ[0]? = some (some (.ref f)) ∧ HZ c' = some (LamX.CodeO c' q) ∧ tl E HZ Q)) :
    PSs X [.Return (some (.Tuple [.Constant (.str z) j p0, .Call (.Name n p1) [] [] p2] ct pt)) ps] (fun D σ H => ∃ Ech : XK, (∀ cls d σ' H', Ech cls d H' → W cls d σ' H') ∧ σ[0]? = some (some (.ref f)) ∧ H c' = some (LamX.CodeO c' q) ∧
      tl Ech H (fun v H1 => [V.str z, v].length ≤ sizeLine ∧ ∀ p, H1 p = none → D.rt (.ref p) (upd H1 p (.tup [.str z, v])))) := by
  refine ⟨fun pins s' σ H' D I ⟨Ech, hW, h1, h2, h3⟩ => ?_⟩
  exact (pss_one (ps_ret (pe_tup (pa_cons pe_str (pa_cons (act Ech hW) pa_nil))))).run pins s' σ H' D I ⟨h1, h2, h3⟩
/-- as many slots as names stand at each statement -/
theorem pss_len {X : Cx} {b : List Stmt} {t : TS} (n : Nat) (hn : X.N.length = n) (h : PSs X b t) : PSs X b (fun D σ H => σ.length = n → t D σ H) := ⟨fun pins s σ H D I q => h.run pins s σ H D I (q (I.len.trans hn))⟩
/-- an own class against another one -/
theorem kit_err {K : PySem.W.Frag} {C : Addr} {t : Value} {b : Bool} (hi : (PySem.W.clsIn K C).isSome = true) (ht : PySem.W.typeIn K (.ref C) = some (.type "type")) (h : PySem.W.subIn K t (.ref C) = some b) (hb : (t == Value.ref C) = false) : PySem.W.kitOne K t (.ref C) = some b := by
  unfold PySem.W.kitOne
  rw [if_neg (by rw [hb]; exact Bool.false_ne_true)]
  show (if ((PySem.W.clsIn K C).isSome && PySem.W.typeIn K (.ref C) == some (.type "type")) = true then PySem.W.subIn K t (.ref C) else none) = some b
  rw [hi, ht]
  rw [if_pos (by rfl)]
  exact h
end Ow
end
section
set_option maxHeartbeats 4000000
/-! A comparison of an own instance with a value of another kind. -/
namespace Ow
open PySem PySem.Spec PyProof.Rows L2 StX
section
variable {X : Cx} {CX : CXT} {n : Nat} {C g : Addr} {sp : Sp} {E : XK}
/-- x op y: x an instance of C, y of the type t, that is not below C -/
def rBinT (K : PySem.W.Frag) (C : Addr) (sp : Sp) (E : XK) : R2 := fun x y H Q => ∃ (a : Addr) (t : Value), x = .ref a ∧ InsAt H a C ∧ TyX K H y t ∧ PySem.W.notFirst K C t = true ∧ sp [x, y] H Q E
theorem op_cmpT {op : CmpOp} (hop : ∀ a b, compareOp op a b = richCompare op a b) (hs : PySem.W.findIn X.K (.ref C) (cmpInfo op).2.1 = some (some (.ref g))) (hf : PySem.W.isFn X.K (.ref g) = true)
    (F : FnR X.prog X.w X.K X.mg X.base CX n g sp) (hr : Room n X.A) (hx : Passes CX X E) : OpR X (compareOp op) (rBinT X.K C sp E) := by
  intro pins s σ H x y v u Q I rx ry h
  obtain ⟨a, t, rfl, ha, ht, hn, q⟩ := h
  cases (show v = Value.ref a from rx)
  obtain ⟨ox, od, J⟩ := inst_of I ha
  obtain ⟨m, hF⟩ := I.fr
  obtain ⟨Pk, k, hk, _⟩ := kit_of I ry ht
  rw [hop]
  refine PySem.W.cmp_K (op := op) (tb := t) hr.units0 hF I.ok.mod.kin J (k.ty _ _ I.kIn hk) hn hs hf ?_
  refine wpAny_mono (wpAny_call (run_fnR (us := [.ref a, u]) (vs := [.ref a, y]) F hr hx I (.cons rfl (.cons ry .nil)) q)) (fun w s' z => ?_) fun _ _ x => x
  obtain ⟨z', H', I', rz, qz⟩ := z
  exact cmpbackR rz ⟨z', H', I', rz, qz⟩
theorem notFirst_of {K : PySem.W.Frag} {T : String} (h : PySem.W.subIn K (.type T) (.ref C) = some false) : PySem.W.notFirst K C (.type T) = true := by
  unfold PySem.W.notFirst
  rw [h]
  simp
end
end Ow
end
section
set_option maxHeartbeats 4000000
/-! A law whose def hands lambdas over: its code is told, and the code's table. -/
namespace Ow
open PySem PySem.Spec PyProof.Rows L2 StX
section
variable {P : Program} {w : World} {K : PySem.W.Frag} {mg : Str → Option Value} {base : Heap} {x qual : Str} {st : Stmt} {f c : Addr}
/-- a def of the text without defaults, its code at c -/
def FnC (K : PySem.W.Frag) (x qual : Str) (st : Stmt) (f c : Addr) : Prop := ∃ (oc : Value) (od an : Option Addr) (kV doc pm ct : Value) (osl : Array (Option Value)),
  K.lookup f = some ⟨oc, od, .func (PySem.W.fnOf x qual (defArgs st) (defBody st) (defScope st) .none kV doc pm an (.ref c) ct), osl⟩ ∧ PySem.W.codeIn K (.ref c) qual = true
theorem FnC.mk {oc : Value} {od an : Option Addr} {kV doc pm ct : Value} {osl : Array (Option Value)} (l : K.lookup f = some ⟨oc, od, .func (PySem.W.fnOf x qual (defArgs st) (defBody st) (defScope st) .none kV doc pm an (.ref c) ct), osl⟩) (h : PySem.W.codeIn K (.ref c) qual = true) : FnC K x qual st f c := ⟨oc, od, an, kV, doc, pm, ct, osl, l, h⟩
theorem FnC.ok {N ps : List Str} (F : FnC K x qual st f c) (S : FnScope N ps (defScope st))
    (hb : ∀ (kV doc pm : Value) (an : Option Addr) (cdv ct : Value) (us : List Value), us.length = ps.length → bindArgs (PySem.W.fnOf x qual (defArgs st) (defBody st) (defScope st) .none kV doc pm an cdv ct) ⟨us, []⟩ = pure (ps.zip us)) :
    ∃ fd : FuncData, (∀ (s : Shared) (us : List Value), us.length = ps.length → BindsTo s fd ⟨us, []⟩ (ps.zip us)) ∧ ∀ (P : Program) (w : World) (mg : Str → Option Value) (base : Heap) (k : Nat) (sp : Sp), (∀ vs H Q E, sp vs H Q E → vs.length = ps.length) →
      (∀ (A : Around) (outer : List Env) (s : Shared) (H : Hp) (vs : List V) (Q : VK) (E : XK), Room k (A.deeper (envOfC qual (defScope st) s.heap.objs.size f (.ref c))) → sp vs H Q E →
        ∃ t, PSs (cxOf CX0 P w K mg base N qual (defScope st) f (.ref c) A outer s H E).nox (defBody st) t ∧ t { nx := fun _ H' => Q .non H', rt := Q } (start N vs) H) → FnOk P w K mg base CX0 (k + 1) f fd ps sp := by
  obtain ⟨oc, od, an, kV, doc, pm, ct, osl, lk, hcd⟩ := F
  refine ⟨_, fun s us hu => BindsTo.of_eq (hb kV doc pm an (.ref c) ct us hu), fun P w mg base k sp len hbody => ⟨len, fun A outer s H args us vs Q E hr e0 b r hs => ?_⟩⟩
  refine LamX.run_ofS lk hcd S hr e0 b r (len _ _ _ _ hs) fun hr2 => ?_
  obtain ⟨t, h, q⟩ := hbody A outer s H vs Q E hr2 hs
  exact ⟨t, h.nox, q⟩
/-- a code object, its table at T -/
theorem codeHd_mk {h : Heap} {T : Addr} {od : Option Addr} {vs : Array Value} {osl : Array (Option Value)} {file : Str} {tf : Tok} {flags text : Int} {tg tt : Tok} {inF : Bool} (X : K.In h) (l : K.lookup c = some ⟨.type "code", od, .fields vs, osl⟩)
    (e1 : vs[11]? = some (.ref T)) (e2 : vs.getD 11 .none = .ref T) (e3 : vs.getD 18 .none = .str file tf) (e4 : vs.getD 7 .none = .int flags tg) (e5 : vs.getD 9 .none = .bool inF) (e6 : vs.getD 10 .none = .int text tt) (ne : c ≠ T) : PySem.W.CodeHd h c T :=
  ⟨_, vs, file, tf, flags, tg, inF, text, tt, X _ _ l, rfl, rfl, e1, e2, e3, e4, e5, e6, ne⟩
end
/-- a table is not of the written part -/
theorem km_none {K : Params → PySem.W.Frag} {as ts : List Addr} {e : ∀ P, as = (K P).map fun x => x.1} {w : World} {h : Heap} (_ : (PySem.W.kmHook K as e ts).says w h) {T : Addr} (n : as.contains T = false) : List.lookup T (K w.params) = none := by
  rw [List.lookup_eq_none_iff]
  intro p hp
  have m : p.1 ∈ as := by rw [e w.params]; exact List.mem_map.mpr ⟨p, hp, rfl⟩
  refine bne_iff_ne.mpr fun q => ?_
  rw [← q] at m
  have := List.contains_iff_mem.mpr m
  rw [n] at this
  cases this
end Ow
end
section
set_option maxHeartbeats 4000000
/-! A def with defaults and without keyword-only parameters, called by keywords. -/
namespace Ow
open PySem PySem.Spec PyProof.Rows L2 StX
section
variable {K : PySem.W.Frag} {x qual : Str} {params : Arguments} {body : List Stmt} {scope : PySem.Scope} {dvs : List V} {kws : List (Str × V)} {f : Addr} {fd : FuncData} {ps : List Str}
/-- n arguments by place, ks by keyword; g puts the defaults in -/
theorem kbnD (F : FunD K x qual params body scope dvs kws f fd) (n : Nat) (ks : List Str) (g : {α : Type} → List α → List α → List α → List α) (hd : dvs ≠ [])
    (hg : ∀ {vs ds zs : List V} {us its ws : List Value}, Vals vs us → Vals ds its → Vals zs ws → Vals (g vs ds zs) (g us its ws))
    (h : ∀ (T : Addr) (kV doc pm : Value) (an : Option Addr) (cdv ct : Value) (us its ws : List Value), us.length = n → its.length = dvs.length → ws.length = ks.length →
      ∃ k, bindArgs (PySem.W.fnOf x qual params body scope (.ref T) kV doc pm an cdv ct) ⟨us, ks.zip ws⟩ = seqItems? (.ref T) >>= k ∧ k (some its.toArray) = pure (ps.zip (g us its ws))) :
    ∃ its, KBn K fd ps n ks (fun us ws => g us its ws) fun vs zs => g vs dvs zs := by
  obtain ⟨oc, od, dV, kV, doc, pm, an, cdv, ct, osl, rfl, lk, hcd, hD, hK⟩ := F.ex
  rcases hD with ⟨e, _⟩ | ⟨_, T, o, its, m, rfl, lT, oT, rT⟩
  · exact absurd e hd
  refine ⟨its, ⟨fun s us ws X hu hw => ?_, fun r1 r2 => hg r1 rT r2⟩⟩
  obtain ⟨k, e1, e2⟩ := h T kV doc pm an cdv ct us its ws hu rT.length.symm hw
  exact BindsTo.of_looks fun M => by
    rw [e1]
    exact looks_items X lT oT (PySem.W.Looks.of_pure e2)
end
section
variable {X : Cx} {CX : CXT} {k : Nat} {f : Addr} {fd : FuncData} {ps ks : List Str} {sp : Sp} {E : XK} {x : Str} {p pos : Pos} {kws : List Keyword} {tk : TA} {g : List Value → List Value → List Value} {gV : List V → List V → List V}
/-- f(k=e, ..): by keywords alone -/
def tCallKO (m : Nat) (sp : Sp) (gV : List V → List V → List V) (E : XK) (tk : TA) : TE := fun σ H Q => tk σ H fun zs H2 => zs.length = m ∧ sp (gV [] zs) H2 Q E
theorem pe_callKO (F : FnOk X.prog X.w X.K X.mg X.base CX k f fd ps sp) (hr : Room k X.A) (hg : Gl X x) (hm : X.mg x = some (.ref f)) (hk : PySem.W.keepIn X.K (.ref f) = true) (hb : KBn X.K fd ps 0 ks g gV) (hx : Passes CX X E) (hkw : PK X kws tk)
    (hall : ((backToKw pos (keywordEach kws X.env)).all fun x => x.1.isSome) = true := by rfl) (hks : List.filterMap (fun x => x.1) (backToKw pos (keywordEach kws X.env)) = ks := by rfl) (hdb : (x == Str.ofString "__debug__") = false := by decide)
    (hpl : (((backTo pos (starEach [] X.env)).any fun x => x.1) || (backToKw pos (keywordEach kws X.env)).any fun x => x.1.isNone) = false := by rfl) :
    PE X (.Call (.Name x p) [] kws pos) (tCallKO ks.length sp gV E tk) := by
  refine ⟨fun pins s σ H Q I h => ?_⟩
  refine wpAny_Call_Name_kw (ld_glob I hg hm ?_ hdb)
  refine PySem.W.callWith_KW0 I.ok.mod.kin hk hall (thn (hkw.run pos pins s σ H _ I h) fun ws s2 z => ?_) hpl
  obtain ⟨zs, H2, I2, rz, l2, q2⟩ := z
  refine ⟨I2.kIn, ?_⟩
  rw [hks]
  exact run_fnN (us := []) (vs := []) F hr hb hx I2 .nil rz rfl l2 q2
end
end Ow
end
section
set_option maxHeartbeats 4000000
/-! `x in o`, `x not in o` and `str(o)` where o is an instance of an own class that defines them. -/
namespace Ow
open PySem PySem.Spec PyProof.Rows L2

theorem unlessNone_fn {K : PySem.W.Frag} {M : Model} {A : Around} {E : Value → Shared → Prop} {s : Shared} {x C f : Addr} {ox : Obj} {od : Option Obj} {name : Str} {args : List Value} {refuse : Sem Value} {Q : Option Value → Shared → Prop}
    (X : K.In s.heap) (I : PySem.W.InstAt s.heap x ox C od) (hs : PySem.W.findIn K (.ref C) name = some (some (.ref f))) (hf : PySem.W.typeIn K (.ref f) = some (.type "function"))
    (h : wpAny M A (call (.ref f) (.ref x :: args)) (fun v => Q (some v)) E s) : wpAny M A (callSpecialUnlessNone? (.ref x) name args refuse) Q E s :=
  wpAny_bind (wpAny_bind (I.type.here ((PySem.W.looks_findIn X hs).here (wpAny_holding (wpAny_bind ((PySem.W.bind_fn X _ hf).here (wpAny_bind (wpAny_mono h (fun _ _ z => wpAny_pure z) fun _ _ z => z))))))))

theorem contains_own {K : PySem.W.Frag} {M : Model} {A : Around} {E : Value → Shared → Prop} {s : Shared} {x C f : Addr} {ox : Obj} {od : Option Obj} {v : Value} {Q : Bool → Shared → Prop}
    (X : K.In s.heap) (I : PySem.W.InstAt s.heap x ox C od) (hs : PySem.W.findIn K (.ref C) "__contains__" = some (some (.ref f))) (hf : PySem.W.isFn K (.ref f) = true)
    (h : wpAny M A (call (.ref f) [.ref x, v]) (fun r s' => ∃ b, r = .bool b ∧ Q b s') E s) : wpAny M A (contains (.ref x) v) Q E s := by
  unfold contains
  refine wpAny_holding ?_
  refine wpAny_bind (m := specialOf (.ref x) "__contains__") (wpAny_bind (I.type.here ((PySem.W.looks_findIn X hs).here ?_)))
  dsimp only
  rw [if_neg (show ¬ (some (Value.ref f) == some Value.none) = true from fun z => by cases z)]
  refine wpAny_bind (m := callSpecialUnlessNone? (.ref x) (Str.ofString "__contains__") [v] _) (unlessNone_fn X I hs (beq_iff_eq.mp hf) (wpAny_mono h (fun r s' z => ?_) fun _ _ z => z))
  obtain ⟨b, rfl, q⟩ := z
  exact wpAny_truthy_bool q

section
variable {X : Cx} {CX : CXT} {n : Nat} {C g : Addr} {sp : Sp} {E : XK}
/-- x in o, o an instance of C -/
def rInO (C : Addr) (sp : Sp) (E : XK) (f : Bool → Bool) : R2 := fun x y H Q => ∃ a, y = .ref a ∧ InsAt H a C ∧ sp [y, x] H (fun v H' => ∃ b, v = .bl b ∧ Q (.bl (f b)) H') E
theorem op_inO (hs : PySem.W.findIn X.K (.ref C) "__contains__" = some (some (.ref g))) (hf : PySem.W.isFn X.K (.ref g) = true)
    (F : FnR X.prog X.w X.K X.mg X.base CX n g sp) (hr : Room n X.A) (hx : Passes CX X E) : OpR X (compareOp .In) (rInO C sp E id) := by
  intro pins s σ H x y v u Q I rx ry h
  obtain ⟨a, rfl, ha, q⟩ := h
  cases (show u = Value.ref a from ry)
  obtain ⟨ox, od, J⟩ := inst_of I ha
  obtain ⟨m, hF⟩ := I.fr
  refine wpAny_bind (contains_own (I.ok.mod.kin.keeps hF.keep) J hs hf ?_)
  refine wpAny_mono (wpAny_call (run_fnR (us := [.ref a, v]) (vs := [.ref a, x]) F hr hx I (.cons rfl (.cons rx .nil)) q)) (fun w s' z => ?_) fun _ _ x => x
  obtain ⟨z', H', I', rz, b, rfl, qz⟩ := z
  exact ⟨b, rz, wpAny_pure ⟨.bl b, H', I', rfl, qz⟩⟩
theorem op_notInO (hs : PySem.W.findIn X.K (.ref C) "__contains__" = some (some (.ref g))) (hf : PySem.W.isFn X.K (.ref g) = true)
    (F : FnR X.prog X.w X.K X.mg X.base CX n g sp) (hr : Room n X.A) (hx : Passes CX X E) : OpR X (compareOp .NotIn) (rInO C sp E fun b => !b) := by
  intro pins s σ H x y v u Q I rx ry h
  obtain ⟨a, rfl, ha, q⟩ := h
  cases (show u = Value.ref a from ry)
  obtain ⟨ox, od, J⟩ := inst_of I ha
  obtain ⟨m, hF⟩ := I.fr
  refine wpAny_bind (contains_own (I.ok.mod.kin.keeps hF.keep) J hs hf ?_)
  refine wpAny_mono (wpAny_call (run_fnR (us := [.ref a, v]) (vs := [.ref a, x]) F hr hx I (.cons rfl (.cons rx .nil)) q)) (fun w s' z => ?_) fun _ _ x => x
  obtain ⟨z', H', I', rz, b, rfl, qz⟩ := z
  exact ⟨b, rz, wpAny_pure ⟨.bl (!b), H', I', rfl, qz⟩⟩
/-- a callee runs further down than the body -/
theorem run_fnRS {pins : List (Addr × Obj)} {σ : L2.St} {H : Hp} {s : Shared} {A : Around} {Q : VK} {us : List Value} {vs : List V} (F : FnR X.prog X.w X.K X.mg X.base CX n g sp) (hr : Room n A) (hfr : A.frames = X.A.frames) (hx : Passes CX X E) (I : Inv X pins σ H s) (r : Vals vs us) (h : sp vs H Q E) :
    codeAny (model X.prog X.w) A (.call (.ref g) ⟨us, []⟩) (fun r s' => match r with | .ok (.ret v) => EP X pins σ Q v s' | .ok _ => False | .error e => X.xe e s') s := by
  have e0 : Env0 X.prog X.w X.K X.mg X.base A X.stack s H := by
    have e := I.env0
    exact ⟨by rw [hfr]; exact e.frames, e.mod, e.bs, e.bsz, e.funs, e.frf, e.hok, e.bare⟩
  refine codeAny_mono (F A X.stack s H us vs Q E hr e0 r h) fun r s' hq => ?_
  cases r with
  | error e => exact hx pins σ H s e s' I hq
  | ok fl =>
    cases fl with
    | ret u => exact I.after hq
    | next => exact False.elim hq
    | brk => exact False.elim hq
    | cont => exact False.elim hq
/-- str(o), o an instance of C that has a __str__ -/
def rStrO (C : Addr) (sp : Sp) (E : XK) : List V → Hp → VK → Prop := fun xs H Q => ∃ a, xs = [.ref a] ∧ InsAt H a C ∧ sp [.ref a] H (fun v H' => ∃ t, v = .str t ∧ Q (.str t) H') E
theorem call_strO (hs : PySem.W.findIn X.K (.ref C) "__str__" = some (some (.ref g))) (hf : PySem.W.isFn X.K (.ref g) = true)
    (F : FnR X.prog X.w X.K X.mg X.base CX n g sp) (hr : Room (n + 2) X.A) (hx : Passes CX X E) : CallR X (.type "str") (rStrO C sp E) := by
  intro pins s σ H xs us Q I r h
  obtain ⟨a, rfl, ha, q⟩ := h
  obtain ⟨u, rfl, ru⟩ := vals1 r
  cases (show u = Value.ref a from ru)
  obtain ⟨ox, od, J⟩ := inst_of I ha
  obtain ⟨m, hF⟩ := I.fr
  refine PySem.W.kso_call hr.in1.in1.units0 (I.ok.mod.kin.keeps hF.keep) J hs hf ?_
  refine wpAny_mono (wpAny_call (run_fnRS (us := [.ref a]) (vs := [.ref a]) F hr.in1.in1 rfl hx I (.cons rfl .nil) q)) (fun w s' z => ?_) fun _ _ x => x
  obtain ⟨z', H', I', rz, t, rfl, qz⟩ := z
  obtain ⟨tk, rfl⟩ := rz
  exact ⟨.str t, H', I', ⟨tk, rfl⟩, qz⟩
end
end Ow
end
section
set_option maxHeartbeats 4000000
/-! The end of a law whose def hands lambdas over and asks repr of containers: nothing is being shown, and the codes' tables are told. -/
namespace Ow
open PySem PySem.Spec PyProof.Rows L2 StX
section
variable {P : Program} {w : World} {K : PySem.W.Frag} {mg mb : Str → Option Value} {k : Nat} {fa a c T : Addr} {sp : Sp} {s1 : Shared} {vs : List Value} {ns : List Int}
/-- a table that is still empty -/
abbrev tab0 : Obj := { cls := .none, data := .fields #[] }
/-- what stands in the abstract heap at the begin: the table, and perhaps the script -/
structure Begin (K : PySem.W.Frag) (h : Heap) (T : Addr) (H : Hp) : Prop where
  tab : H T = some (.tbl #[])
  rest : ∀ b, b ≠ T → H b = none ∨ ∃ o xs items n, H b = some (.frz o (.lst xs)) ∧ K.lookup b = none ∧ h.get? b = some o ∧ o.data = .seq items n
theorem end_fromT (KX : K.In s1.heap) (hns : s1.heap.Ns mainGlobals mg) (hb : s1.heap.Ns builtinsNs mb) (hbb : ∀ x : Str, x ≠ "__name__" → mb x = bootBuiltins x) (hlim : s1.heap.NoLimit) (hg : s1.gens = #[]) (hr : Room k callerA)
    (eT : s1.heap.get? T = some tab0) (nT : K.lookup T = none) (cT : PySem.W.CodeHd s1.heap c T)
    (main : ∃ (m : Addr) (o : Obj), mg "__builtins__" = some (.ref m) ∧ m ≠ builtinsNs ∧ s1.heap.get? m = some o ∧ o.cls = .type "module" ∧ o.dict = some builtinsNs ∧ o.data = .plain)
    (F : ∀ base : Heap, K.In base → base.Ns mainGlobals mg → LamX.TabB base mg c T → FnG P w K mg base CX0 k fa sp) {H : Hp} (B : Begin K s1.heap T H) (hok : HOk P w H s1.heap)
    (hsp : sp [.ref a] H (fun v _ => v = .bl true) fun _ _ _ => False) :
    codeAny (model P w) callerA (.call (.ref fa) ⟨[.ref a], []⟩) (fun r s' => r = .ok (.ret (.bool true)) ∧ OldK s1.heap s'.heap ∧ s'.os = s1.os ∧ AllBare s'.gens) s1 := by
  let base := hidT s1.heap H
  have free : ∀ {b : Addr} {o : Obj}, s1.heap.get? b = some o → (∀ items n, o.data ≠ .seq items n) → o.data ≠ .fields #[] → base.get? b = some o := fun {b o} e d1 d2 => by
    refine hidT_get e ?_
    by_cases q : b = T
    · rw [q, eT] at e
      cases e
      exact (d2 rfl).elim
    · rcases B.rest b q with z | ⟨o2, xs, items, n, _, _, e2, z⟩
      · exact z
      · rw [e] at e2
        cases e2
        exact (d1 _ _ z).elim
  have names : ∀ {b : Addr} {m : Str → Option Value}, s1.heap.Ns b m → base.Ns b m := fun z => by
    obtain ⟨o, es, ep, e, d, r⟩ := z
    exact ⟨o, es, ep, free e (fun _ _ y => by rw [d] at y; cases y) (fun y => by rw [d] at y; cases y), d, r⟩
  have hK : K.In base := fun b o e => by
    refine hidT_get (KX b o e) ?_
    by_cases q : b = T
    · rw [q, nT] at e
      cases e
    · rcases B.rest b q with z | ⟨o2, xs, items, n, _, z, _⟩
      · exact z
      · rw [e] at z
        cases z
  have lim : base.NoLimit := by
    obtain ⟨m, h1, h2⟩ := hlim
    exact ⟨m, names h1, h2⟩
  have TB : LamX.TabB base mg c T := by
    refine ⟨?_, ?_, fun z => ?_⟩
    · obtain ⟨o, us, file, tf, flags, tg, inF, text, tt, e1, p1, p2, p3, p4, p5, p6, p7, p8, p9⟩ := cT
      exact ⟨o, us, file, tf, flags, tg, inF, text, tt, free e1 (fun _ _ y => by rw [p2] at y; cases y) (fun y => by rw [p2] at y; cases y; simp at p3), p1, p2, p3, p4, p5, p6, p7, p8, p9⟩
    · obtain ⟨m, o, q1, q2, q3, q4, q5, q6⟩ := main
      refine ⟨m, o, q1, q2, fun y => ?_, fun y => ?_, free q3 (fun _ _ y => by rw [q6] at y; cases y) (fun y => by rw [q6] at y; cases y), q4, q5, q6⟩
      · obtain ⟨og, es, ep, e, d, _⟩ := hns
        rw [y, e] at q3
        cases q3
        rw [q6] at d
        cases d
      · rw [y, eT] at q3
        cases q3
        cases q6
    · obtain ⟨og, es, ep, e, d, _⟩ := hns
      rw [z, eT] at e
      cases e
      cases d
  have e0 : Env0 P w K mg base callerA [] s1 H :=
    { frames := rfl, mod := ⟨hK, names hns, ⟨mb, names hb, hbb⟩, lim⟩, bs := fun b o e => of_hidT e, bsz := Nat.le_of_eq (hidT_size _ _), funs := trivial, frf := fun b hb => (List.not_mem_nil hb).elim, hok := hok, bare := .of_eq hg }
  refine codeAny_mono (F base hK (names hns) TB callerA [] s1 H [.ref a] [.ref a] _ _ hr rfl e0 (.cons rfl .nil) hsp) fun r s' h => ?_
  cases r with
  | error e => exact False.elim h
  | ok fl =>
    cases fl with
    | next => exact False.elim h
    | brk => exact False.elim h
    | cont => exact False.elim h
    | ret u =>
      obtain ⟨v, H2, os, bare, un, ok2, rv, q⟩ := h
      subst q
      cases rv
      have still : ∀ b o, b ≠ T → s1.heap.get? b = some o → s'.heap.get? b = some o := fun b o nb e => by
        rcases B.rest b nb with z | ⟨o2, xs, items, n, z, _⟩
        · exact un.keep b o e z (fun y => List.not_mem_nil y) (fun y => List.not_mem_nil y)
        · have e1 := (hok b _ z).1
          have e2 := (ok2 b _ (un.frzs b o2 _ z)).1
          rw [e] at e1
          cases e1
          exact e2
      obtain ⟨more, z⟩ := un.tbls T #[] B.tab
      have wide := ok2 T _ z
      refine ⟨rfl, ⟨fun b o e => ?_, fun b o e => ?_⟩, os, bare⟩
      · by_cases q : b = T
        · subst q
          rw [eT] at e
          cases e
          exact .inr (.inl ⟨(cT.tab eT).isCodeTable, rfl, #[], _, rfl, by rw [Array.empty_append]; exact wide⟩)
        · exact .inl (still b o q e)
      · by_cases q : b = T
        · subst q
          exact ⟨_, wide⟩
        · exact ⟨o, still b o q e⟩
theorem end_callT (KX : K.In s1.heap) (hns : s1.heap.Ns mainGlobals mg) (hb : s1.heap.Ns builtinsNs mb) (hbb : ∀ x : Str, x ≠ "__name__" → mb x = bootBuiltins x) (hlim : s1.heap.NoLimit) (hg : s1.gens = #[]) (hr : Room k callerA)
    (eT : s1.heap.get? T = some tab0) (nT : K.lookup T = none) (cT : PySem.W.CodeHd s1.heap c T)
    (main : ∃ (m : Addr) (o : Obj), mg "__builtins__" = some (.ref m) ∧ m ≠ builtinsNs ∧ s1.heap.get? m = some o ∧ o.cls = .type "module" ∧ o.dict = some builtinsNs ∧ o.data = .plain)
    (ha : s1.heap.get? a = some { cls := .type "list", data := .seq vs.toArray }) (hi : IntsAre vs ns) (hl : ns.length ≤ sizeLine) (F : ∀ base : Heap, K.In base → base.Ns mainGlobals mg → LamX.TabB base mg c T → FnG P w K mg base CX0 k fa sp)
    (hsp : ∀ H : Hp, H T = some (.tbl #[]) → SqL K H a (ns.map V.int) → sp [.ref a] H (fun v _ => v = .bl true) fun _ _ _ => False) :
    codeAny (model P w) callerA (.call (.ref fa) ⟨[.ref a], []⟩) (fun r s' => r = .ok (.ret (.bool true)) ∧ OldK s1.heap s'.heap ∧ s'.os = s1.os ∧ AllBare s'.gens) s1 := by
  have rv := vals_ints hi
  have hl2 : (ns.map V.int).length ≤ sizeLine := by rw [List.length_map]; exact hl
  have naT : a ≠ T := fun z => by
    rw [z, eT] at ha
    cases ha
  cases hk : K.lookup a with
  | some o =>
    have e := KX a o hk
    rw [ha] at e
    cases e
    let H : Hp := fun b => if b = T then some (.tbl #[]) else none
    have HT : H T = some (.tbl #[]) := if_pos rfl
    have HN : ∀ b, b ≠ T → H b = none := fun b n => if_neg n
    refine end_fromT KX hns hb hbb hlim hg hr eT nT cT main F (H := H) ⟨HT, fun b n => .inl (HN b n)⟩ (fun b u z => ?_) (hsp H HT ?_)
    · by_cases q : b = T
      · subst q
        rw [HT] at z
        cases z
        exact eT
      · rw [HN b q] at z
        cases z
    · exact .inr ⟨_, vs.toArray, _, hk, rfl, rfl, rfl, by rw [List.size_toArray, hi.length]; exact hl, by simpa using rv⟩
  | none =>
    let o : Obj := { cls := .type "list", data := .seq vs.toArray }
    let H : Hp := fun b => if b = a then some (.frz o (.lst (ns.map V.int))) else if b = T then some (.tbl #[]) else none
    have HA : H a = some (.frz o (.lst (ns.map V.int))) := if_pos rfl
    have HT : H T = some (.tbl #[]) := by show (if T = a then _ else _) = _; rw [if_neg (Ne.symm naT), if_pos rfl]
    have HN : ∀ b, b ≠ a → b ≠ T → H b = none := fun b n n2 => by show (if b = a then _ else _) = _; rw [if_neg n, if_neg n2]
    refine end_fromT KX hns hb hbb hlim hg hr eT nT cT main F (H := H) ⟨HT, fun b n => ?_⟩ (fun b u z => ?_) (hsp H HT (.inl (.inr ⟨_, HA⟩)))
    · by_cases q : b = a
      · subst q
        exact .inr ⟨o, _, _, _, HA, hk, ha, rfl⟩
      · exact .inl (HN b q n)
    · by_cases q : b = a
      · subst q
        rw [HA] at z
        cases z
        exact ⟨ha, hl2, vs, _, rv, ha⟩
      · by_cases q2 : b = T
        · subst q2
          rw [HT] at z
          cases z
          exact eT
        · rw [HN b q q2] at z
          cases z
end
/-- what is to be known of the law's promise at the head's heap -/
def LawT (l : PySem.W.OpenLaw) (w : World) (K : PySem.W.Frag) (k n : Nat) (mg : Str → Option Value) (fa : Addr) (h : Heap) : Prop :=
  ∃ (c T : Addr) (sp : Sp), h.get? T = some tab0 ∧ K.lookup T = none ∧ PySem.W.CodeHd h c T ∧
    (∀ (H : Hp) (a : Addr) (ns : List Int), ns.length ≤ n → H T = some (.tbl #[]) → SqL K H a (ns.map V.int) → sp [.ref a] H (fun v _ => v = .bl true) fun _ _ _ => False) ∧
    ∀ base : Heap, K.In base → base.Ns mainGlobals mg → LamX.TabB base mg c T → FnG l.prog w K mg base CX0 k fa sp
theorem walk_ofTG {l : PySem.W.OpenLaw} {n k : Nat} {q : Program} {loose : List Str} {XP : (Str → Option Value) → Heap → Prop} {YP : World → Heap → Prop} {d : DefRec} {K : Params → PySem.W.Frag}
    (hn : l.most = some n) (hn2 : n ≤ sizeLine) (hdf : d.params.defaults = []) (hr : Room k callerA) (hY : ∀ (w : World) (h : Heap), YP w h → (K w.params).In h)
    (F : ∀ (w : World) (mg : Str → Option Value) (fa : Addr) (h : Heap), YP w h → (K w.params).In h → h.Ns mainGlobals mg → mg d.name = some (.ref fa) → LawT l w (K w.params) k n mg fa h) :
    PySem.W.WalkO q loose XP YP l.row.toRowW d [] (fun f vs => PySem.call f vs) := by
  refine Att.attach_call hn hdf fun w s0 s1 mg mb fa o pm cd doc a vs ns G Y ho hd hcd hmg hobj hints hlen hg => ?_
  have KX := hY w _ Y
  obtain ⟨c, T, sp, eT, nT, cT, hsp, hF⟩ := F w mg fa _ Y KX G.T.g hmg
  exact end_callT KX G.T.g G.T.b G.T.builtins G.T.nolimit hg hr eT nT cT G.T.bmain hobj hints (Nat.le_trans hlen hn2) hF fun H hH hS => hsp H a ns hlen hH hS
end Ow
end
section
set_option maxHeartbeats 4000000
/-! A law's def, its code told, called while nothing is being shown; what stays when a lambda is made. -/
namespace Ow
open PySem PySem.Spec PyProof.Rows L2 StX
section
variable {P : Program} {w : World} {K : PySem.W.Frag} {mg : Str → Option Value} {base : Heap} {x qual : Str} {st : Stmt} {f c : Addr}
theorem FnC.okG {N ps : List Str} {k : Nat} {sp : Sp} (F : FnC K x qual st f c) (S : FnScope N ps (defScope st))
    (hb : ∀ (kV doc pm : Value) (an : Option Addr) (cdv ct : Value) (us : List Value), us.length = ps.length → bindArgs (PySem.W.fnOf x qual (defArgs st) (defBody st) (defScope st) .none kV doc pm an cdv ct) ⟨us, []⟩ = pure (ps.zip us))
    (len : ∀ vs H Q E, sp vs H Q E → vs.length = ps.length)
    (hbody : ∀ (A : Around) (outer : List Env) (s : Shared) (H : Hp) (vs : List V) (Q : VK) (E : XK), Room k (A.deeper (envOfC qual (defScope st) s.heap.objs.size f (.ref c))) → A.guards = some [] → sp vs H Q E →
      ∃ t, PSs (cxOf CX0 P w K mg base N qual (defScope st) f (.ref c) A outer s H E).nox (defBody st) t ∧ t { nx := fun _ H' => Q .non H', rt := Q } (start N vs) H) : FnG P w K mg base CX0 (k + 1) f sp := by
  obtain ⟨oc, od, an, kV, doc, pm, ct, osl, lk, hcd⟩ := F
  intro A outer s H us vs Q E hr hg e0 r hs
  have hv := len _ _ _ _ hs
  refine LamX.run_ofS lk hcd S hr e0 (BindsTo.of_eq (hb kV doc pm an (.ref c) ct us (r.length.symm.trans hv))) r hv fun hr2 => ?_
  obtain ⟨t, h, q⟩ := hbody A outer s H vs Q E hr2 hg hs
  exact ⟨t, h.nox, q⟩
end
section
variable {K : PySem.W.Frag} {H H' : Hp} {v : V} {t : Value}
theorem TyOf.extN (h : TyOf K H v t) (m : LamX.ExtN H H') : TyOf K H' v t := by
  cases h with
  | non => exact .non
  | bl x => exact .bl x
  | int i => exact .int i
  | str x => exact .str x
  | flt x => exact .flt x
  | lst h => exact .lst (m _ _ h fun _ z => by cases z)
  | frz h => exact .frz (m _ _ h fun _ z => by cases z)
  | tup h => exact .tup (m _ _ h fun _ z => by cases z)
  | dK h => exact .dK (m _ _ h fun _ z => by cases z)
  | dT h => exact .dT (m _ _ h fun _ z => by cases z)
  | ins h c a b d e => exact .ins (m _ _ h fun _ z => by cases z) c a b d e
theorem TyX.extN (h : TyX K H v t) (m : LamX.ExtN H H') : TyX K H' v t := by
  cases h with
  | base h => exact .base (TyOf.extN h m)
  | byt b => exact .byt b
  | set h => exact .set (m _ _ h fun _ z => by cases z)
  | kList h c => exact .kList h c
  | kTuple h c => exact .kTuple h c
  | kDict h c => exact .kDict h c
  | fTuple h => exact .fTuple (m _ _ h fun _ z => by cases z)
  | fDict h => exact .fDict (m _ _ h fun _ z => by cases z)
theorem NoInt.extN (h : NoInt K H v) (m : LamX.ExtN H H') : NoInt K H' v := by
  rcases h with h | ⟨t, h, q⟩
  · exact .inl h
  · exact .inr ⟨t, TyX.extN h m, q⟩
end
end Ow
end
section
set_option maxHeartbeats 4000000
/-! A def with defaults: its promise as FnOk, by place and by keywords. -/
namespace Ow
open PySem PySem.Spec PyProof.Rows L2 StX
section
variable {P : Program} {w : World} {K : PySem.W.Frag} {mg : Str → Option Value} {base : Heap} {CX : CXT} {x qual : Str} {params : Arguments} {body : List Stmt} {scope : PySem.Scope} {dvs : List V} {f : Addr} {fd : FuncData} {ps : List Str} {k : Nat} {sp : Sp}
/-- n arguments by place, the defaults behind the first j fill up -/
theorem posR (F : FunD K x qual params body scope dvs [] f fd) (ok : FnOk P w K mg base CX k f fd ps sp) (n j : Nat) (hd : dvs ≠ []) (hn : n + (dvs.length - j) = ps.length)
    (hb : ∀ (T : Addr) (kV doc pm : Value) (an : Option Addr) (cdv ct : Value) (us its : List Value), us.length = n → its.length = dvs.length →
      ∃ k, bindArgs (PySem.W.fnOf x qual params body scope (.ref T) kV doc pm an cdv ct) ⟨us, []⟩ = seqItems? (.ref T) >>= k ∧ k (some its.toArray) = pure (ps.zip (us ++ its.drop j))) : FnR P w K mg base CX k f (fun vs H Q E => sp (vs ++ dvs.drop j) H Q E) := by
  obtain ⟨ds, hds, b⟩ := F.binds1 n j hd hn hb
  exact ok.raw b hds
end
end Ow
end
section
set_option maxHeartbeats 4000000
/-! An instance called by keywords alone; a def without defaults called by keywords; a def called without arguments. -/
namespace Ow
open PySem PySem.Spec PyProof.Rows L2 StX
section
variable {K : PySem.W.Frag} {x qual : Str} {params : Arguments} {body : List Stmt} {scope : PySem.Scope} {f : Addr} {fd : FuncData} {ps ks : List Str} {n : Nat} {g : List Value → List Value → List Value} {gV : List V → List V → List V}
/-- keywords at a def without defaults -/
theorem kbn0 (F : FunD K x qual params body scope [] [] f fd) (hrel : ∀ {vs zs : List V} {us ws : List Value}, Vals vs us → Vals zs ws → Vals (gV vs zs) (g us ws))
    (hb : ∀ (kV doc pm : Value) (an : Option Addr) (cdv ct : Value) (us ws : List Value), us.length = n → ws.length = ks.length → bindArgs (PySem.W.fnOf x qual params body scope .none kV doc pm an cdv ct) ⟨us, ks.zip ws⟩ = pure (ps.zip (g us ws))) : KBn K fd ps n ks g gV := by
  obtain ⟨oc, od, dV, kV, doc, pm, an, cdv, ct, osl, rfl, lk, hcd, hD, hK⟩ := F.ex
  rcases hD with ⟨_, rfl⟩ | ⟨e, _⟩
  · exact ⟨fun s us ws _ hu hw => BindsTo.of_eq (hb kV doc pm an cdv ct us ws hu hw), hrel⟩
  · exact absurd rfl e
end
theorem callKW_of {M : Model} {A : Around} {E : Value → Shared → Prop} {s : Shared} {a : Addr} {p : Pos} {Q : Value → Shared → Prop} {as : List (Bool × Sem Value)} {kws : List (Option Str × Sem Value)} (np : (as.any (·.1) || kws.any (·.1.isNone)) = false)
    (h : wpAny M A (evalArgs (.ref a) true as kws) (fun z s1 => (∃ C ox od, PySem.W.InstAt s1.heap a ox C od ∧ ox.data = .plain) ∧ wpAny M A (call (.ref a) z.pos z.kw) Q E s1) E s) : wpAny M A (callWith p (.ref a) [] as kws) Q E s := by
  unfold callWith
  refine wpAny_bind (wpAny_holding (wpAny_mono h (fun z s1 y => wpAny_bind (wpAny_standAt ?_)) fun _ _ e => e))
  obtain ⟨⟨C, ox, od, J, hd⟩, y⟩ := y
  simp only [np]
  refine wpAny_bind ((PySem.W.kco_keeper (M := M) J hd).here ?_)
  exact wpAny_bind (wpAny_mono (wpAny_operateT y) (fun r s2 hr => wpAny_bind (wpAny_holding (wpAny_point (wpAny_pure hr)))) fun _ _ e => e)
section
variable {X : Cx} {CX : CXT} {k n : Nat} {f C : Addr} {fd : FuncData} {ps ks : List Str} {sp : Sp} {E : XK} {x : Str} {p pos : Pos} {fe : Expr} {kws : List Keyword} {tf : TE} {tk : TA} {g : List Value → List Value → List Value} {gV : List V → List V → List V}
/-- o(k=e, ..): o an expression that gives an instance of C -/
def tCallOK (X : Cx) (C : Addr) (m : Nat) (sp : Sp) (gV : List V → List V → List V) (E : XK) (tf : TE) (tk : TA) : TE := fun σ H Q => tf σ H fun y H1 => ∃ a, y = V.ref a ∧ tk σ H1 fun zs H2 => zs.length = m ∧ InsC X H2 a C ∧ sp (gV [V.ref a] zs) H2 Q E
theorem pe_callOK (hf : PE X fe tf) (c : CallO X.K C f) (F : FnOk X.prog X.w X.K X.mg X.base CX k f fd ps sp) (hr : Room k X.A) (hb : KBn X.K fd ps 1 ks g gV) (hx : Passes CX X E) (hkw : PK X kws tk)
    (ht : eval (.Call fe [] kws pos) X.env = (do callWith pos (← eval fe X.env) [] (backTo pos (starEach [] X.env)) (backToKw pos (keywordEach kws X.env))) := by rfl)
    (hall : ((backToKw pos (keywordEach kws X.env)).all fun x => x.1.isSome) = true := by rfl) (hks : List.filterMap (fun x => x.1) (backToKw pos (keywordEach kws X.env)) = ks := by rfl)
    (hpl : (((backTo pos (starEach [] X.env)).any fun x => x.1) || (backToKw pos (keywordEach kws X.env)).any fun x => x.1.isNone) = false := by rfl) : PE X (.Call fe [] kws pos) (tCallOK X C ks.length sp gV E tf tk) := by
  refine ⟨fun pins s σ H Q I h => ?_⟩
  rw [ht]
  refine wpAny_bind (thn (hf.run pins s σ H _ I h) fun u s1 ⟨y, H1, I1, ry, a, ey, q⟩ => ?_)
  subst ey
  obtain rfl : u = Value.ref a := ry
  refine callKW_of hpl (evalArgs_kw2_nil hall (thn (hkw.run pos pins s1 σ H1 _ I1 q) fun ws s2 ⟨zs, H2, I2, rz, l2, hi, q2⟩ => ?_))
  obtain ⟨ox, od, J, hd⟩ := insC_at I2 hi
  refine ⟨⟨C, ox, od, J, hd⟩, ?_⟩
  rw [hks]
  have r1 : Vals [V.ref a] [Value.ref a] := .cons rfl .nil
  refine wpAny_call (PySem.W.kco_code I2.kIn J hd c.at_ c.fn c.fi (codeAny_mono (F.run X.A X.stack s2 H2 ⟨[.ref a], ks.zip ws⟩ (g [.ref a] ws) (gV [.ref a] zs) Q E hr I2.env0 (hb.to s2 [.ref a] ws I2.kIn rfl (rz.length.symm.trans l2)) (hb.rel r1 rz) q2) fun r s' hq => ?_))
  cases r with
  | error e => exact hx pins σ H2 s2 e s' I2 hq
  | ok fl =>
    cases fl with
    | ret u => exact I2.after hq
    | next => exact False.elim hq
    | brk => exact False.elim hq
    | cont => exact False.elim hq
/-- o(e, ..), told without the context (for a lambda's body) -/
def tCallOI (C : Addr) (sp : Sp) (E : XK) (tf : TE) (t : TA) : TE := fun σ H Q => tf σ H fun y H1 => ∃ a, y = V.ref a ∧ t σ H1 fun vs H2 => InsAt H2 a C ∧ sp (V.ref a :: vs) H2 Q E
theorem pe_callOI {g : Addr} {e : Expr} {es : List Expr} {t : TA} (hf : PE X fe tf) (c : CallO X.K C g) (F : FnR X.prog X.w X.K X.mg X.base CX k g sp) (hr : Room k X.A) (hx : Passes CX X E) (ha : PA X (e :: es) t)
    (ht : eval (.Call fe (e :: es) [] pos) X.env = (do callWith pos (← eval fe X.env) [] (backTo pos (starEach (e :: es) X.env)) (backToKw pos (keywordEach [] X.env))) := by rfl)
    (he : starEach (e :: es) X.env = (false, eval e X.env) :: starEach es X.env := by rfl) (hpl : (backTo pos (starEach es X.env)).any (·.1) = false := by rfl) : PE X (.Call fe (e :: es) [] pos) (tCallOI C sp E tf t) := by
  constructor
  intro pins s σ H Q I h
  rw [ht]
  refine wpAny_bind (thn (hf.run pins s σ H _ I h) fun u s1 z => ?_)
  obtain ⟨y, H1, I1, ry, a, rfl, q⟩ := z
  obtain rfl : u = Value.ref a := ry
  refine callO_with (thn (ha.run pos pins s1 σ H1 _ I1 q) fun us s2 z => ?_) he hpl
  obtain ⟨vs, H2, I2, r, ⟨dx, fs, hi⟩, q2⟩ := z
  have hc : InsC X H2 a C := .inr ⟨dx, fs, hi⟩
  obtain ⟨ox, od, J, hd⟩ := insC_at I2 hc
  exact ⟨⟨C, ox, od, J, hd⟩, run_callO c F hr hx I2 hc r q2⟩
end
end Ow
end
section
set_option maxHeartbeats 4000000
/-! Own errors as values: made, by place or by keywords, their fields read, their classes asked. -/
namespace PySem
namespace OwX
open Builtin Builtin.ObjectAttr HandSPX
section
variable {M : Model} {A : Around} {E : Value → Shared → Prop} {h : Heap} {g : Array GenState} {d : Drawn} {t : Nat} {os : OsState}
variable {nm q : Str} {C N : Addr} {bs bm bmB : List Value} {hdct : Bool} {sn : List Str} {sub : List Value} {ab : Bool} {col : Option Bool} {dd : Option Addr} {k0 k1 k2 k3 k5 : Option Value} {B newId initId : String}
theorem check_new_kw (F : ExcBaseFacts B newId initId bmB) (hT : ∀ X : String, bm.contains (.type X) = bmB.contains (.type X)) {rest : List Value} {kw : List (Str × Value)} {Q : Unit → Shared → Prop}
    (hC : h.get? C = some (excClassObj nm q C N bs bm hdct sn sub ab col dd k0 k1 k2 k3 k5 newId)) (hq : Q () ⟨h, g, d, t, os⟩) : wpAny M A (checkBuiltinCall newId ⟨.ref C :: rest, kw⟩) Q E ⟨h, g, d, t, os⟩ := by
  have hcont : (Value.ref C :: bm).contains (.type B) = true := by rw [List.contains_cons, hT, F.hasB, Bool.or_true]
  have hstar := F.noStar
  simp only [checkBuiltinCall, F.newKind, F.newSplit, F.newRow]
  repeat (first | refine wpAny_loadPart_at hC ?_ | (refine wpAny_isSubtype_exc hC ?_; rw [hcont]) | refine wpAny_staticBase_exc hC ?_ | refine wpAny_madeBy_exc hC ?_ | simp only [bne_self_eq_false, Bool.false_eq_true, if_false] | wp_step)
  exact hq
end
section
variable {prog : Program} {w : World} {A : Around} {E : Value → Shared → Prop} {R : Result → Shared → Prop} {h : Heap} {g : Array GenState} {d : Drawn} {t : Nat} {os : OsState}
variable {nm q : Str} {C N : Addr} {bs bm bmB : List Value} {hdct : Bool} {sn : List Str} {sub : List Value} {ab : Bool} {col : Option Bool} {dd : Option Addr} {k0 k1 k2 k3 k5 : Option Value} {B newId initId : String}
theorem new_kw (F : ExcBaseFacts B newId initId bmB) (hT : ∀ X : String, bm.contains (.type X) = bmB.contains (.type X)) {rest : List Value} {kw : List (Str × Value)}
    (hC : h.get? C = some (excClassObj nm q C N bs bm hdct sn sub ab col dd k0 k1 k2 k3 k5 newId))
    (hq : R (.ok (.ret (.ref (h.objs.size + 1)))) ⟨(h.push { cls := .type "tuple", data := .seq rest.toArray }).push
      { cls := .ref C, data := .fields #[.ref h.objs.size, .none, .none, .none, .bool false, .none] }, g, d, t, os⟩) (hrest : rest.length ≤ sizeLine) :
    codeAny (model prog w) A (.builtin newId ⟨.ref C :: rest, kw⟩) R ⟨h, g, d, t, os⟩ := by
  have hends := F.ends
  have hcB : (Value.ref C :: bm).contains (.type B) = true := by rw [List.contains_cons, hT, F.hasB, Bool.or_true]
  have hcA : (Value.ref C :: bm).contains (.type "AttributeError") = false := by rw [List.contains_cons, hT, F.noAttr]; rfl
  have hcN : (Value.ref C :: bm).contains (.type "NameError") = false := by rw [List.contains_cons, hT, F.noName]; rfl
  refine codeAny_builtinAt F.entry ?_
  unfold Builtin.«BaseException.__new__»
  refine wpAt_bind ?_
  show wpAt _ _ _ (stack >>= _) _ _ _
  refine wpAt_bind (wpAt_stack fun p below => wpAt_of_wpAny ?_)
  wp_walk
  refine wpAt_of_wpAny ?_
  rw [F.owner]
  repeat (first | with_reducible refine wpAny_madeHere_exc F.canon hC ?_ | with_reducible refine wpAny_loadPart_at hC ?_ | (with_reducible refine wpAny_isSubtype_exc hC ?_; first | rw [hcB] | rw [hcA] | rw [hcN]) | wp_step)
  show R _ _
  rw [Heap.size_push]
  exact hq
theorem type_call_kw (F : ExcBaseFacts B newId initId bmB) (hT : ∀ X : String, bm.contains (.type X) = bmB.contains (.type X)) {rest : List Value} {kw : List (Str × Value)} {fI : Addr} {Q : Fin → Shared → Prop}
    (hC : h.get? C = some (excClassObj nm q C N bs bm hdct sn sub ab col dd k0 k1 k2 k3 k5 newId))
    (hi : W.Looks (model prog w) h (typeLookup (.ref C) "__init__") (some (.ref fI))) (hb : ∀ self, W.Looks (model prog w) h (bindSpecial (.ref fI) self) (.ref fI, [self])) (hrest : rest.length ≤ sizeLine)
    (hq : codeAny (model prog w) A (.call (.ref fI) ⟨.ref (h.objs.size + 1) :: rest, kw⟩)
      (fun r s' => match r with | .ok (.ret v) => v = .none ∧ Q (.done (.ret (.ref (h.objs.size + 1)))) s' | .ok _ => False | .error e => E e s')
      ⟨(h.push (W.kdv_tup rest)).push (excO C h.objs.size), g, d, t, os⟩) :
    wpAny (model prog w) A (Builtin.«type.__call__» ⟨.ref C :: rest, kw⟩) Q E ⟨h, g, d, t, os⟩ := by
  repeat (first | with_reducible refine wpAny_loadPart_at hC ?_ | with_reducible refine wpAny_madeBy_exc hC ?_ | wp_step)
  refine codeAny_call_builtin_code (Code.quiet_builtin _ F.quiet) (check_new_kw F hT hC ?_)
  refine new_kw F hT hC ?_ hrest
  show wpAny _ _ _ _ _ _
  have k : ∀ b o, h.get? b = some o → ((h.push (W.kdv_tup rest)).push (excO C h.objs.size)).get? b = some o := fun b o e => Heap.get?_push_of_some _ (Heap.get?_push_of_some _ e)
  have hC₁ := k _ _ hC
  have hget : ((h.push (W.kdv_tup rest)).push (excO C h.objs.size)).get? (h.objs.size + 1) = some (excO C h.objs.size) := by heap_get
  have hcC : (Value.ref C :: bm).contains (.ref C) = true := by simp
  have i1 := hi.keeps k
  have b1 := (hb (.ref (h.objs.size + 1))).keeps k
  unfold isInstance
  repeat (first | with_reducible refine wpAny_loadPart_at hget ?_ | (with_reducible refine wpAny_isSubtype_exc hC₁ ?_; rw [hcC]) | wp_step)
  show wpAny _ _ (typeLookup (.ref C) _) _ _ _
  refine i1.at ?_
  refine wpAny_holding (wpAny_bind (b1.at ?_))
  refine wpAny_bind (wpAny_call (codeAny_mono hq fun r s' z => ?_))
  rcases r with e | (v | _ | _ | _) <;> first | exact z | exact z.elim | skip
  obtain ⟨rfl, z⟩ := z
  first
    | exact wpAny_pure (wpAny_pure z)
    | (wp_walk; exact z)
theorem call_kw (F : ExcBaseFacts B newId initId bmB) (hT : ∀ X : String, bm.contains (.type X) = bmB.contains (.type X)) {rest : List Value} {kw : List (Str × Value)} {fI : Addr}
    (hC : h.get? C = some (excClassObj nm q C N bs bm hdct sn sub ab col dd k0 k1 k2 k3 k5 newId))
    (hi : W.Looks (model prog w) h (typeLookup (.ref C) "__init__") (some (.ref fI))) (hb : ∀ self, W.Looks (model prog w) h (bindSpecial (.ref fI) self) (.ref fI, [self])) (hrest : rest.length ≤ sizeLine)
    (hq : codeAny (model prog w) (A.under (.builtin "type.__call__" ⟨.ref C :: rest, kw⟩)) (.call (.ref fI) ⟨.ref (h.objs.size + 1) :: rest, kw⟩) (W.InitBack (h.objs.size + 1) R)
      ⟨(h.push (W.kdv_tup rest)).push (excO C h.objs.size), g, d, t, os⟩) :
    codeAny (model prog w) A (.call (.ref C) ⟨rest, kw⟩) R ⟨h, g, d, t, os⟩ := by
  have f1 := tc_lookup
  have f2 := tc_bind (.ref C)
  have hTy : (⟨h, g, d, t, os⟩ : Shared).TypeIs (.ref C) "type" := ⟨_, hC, rfl⟩
  refine codeAny_of_tree ?_
  show wpAny _ _ (callAny (.ref C) _) _ _ _
  repeat (any_goals (first | assumption | with_reducible refine wpAny_loadPart_at hC ?_ | wp_step))
  refine ⟨rfl, ?_⟩
  refine codeAny_call_builtin_at (Code.quiet_builtin _ (by decide +kernel)) entry_typeCall (wpAny_check_type_call_sub hC (type_call_kw F hT hC hi hb hrest ?_))
  refine codeAny_mono hq fun r s' z => ?_
  rcases r with e | (v | _ | _ | _) <;> exact z
end
end OwX
end PySem
namespace Ow
open PySem PySem.Spec PyProof.Rows L2 StX
section
variable {X : Cx} {CX : CXT} {x : Str} {C fI : Addr} {k n : Nat} {fd : FuncData} {ps ks : List Str} {sp : Sp} {ds : List Value} {dvs : List V} {E : XK} {p pos : Pos} {e : Expr} {es : List Expr} {kws : List Keyword} {ta tk : TA} {g : List Value → List Value → List Value} {gV : List V → List V → List V}
/-- C(e, ..): a new error, then its __init__; the error is the value -/
def tOex (C : Addr) (sp : Sp) (ta : TA) : TE := fun σ H Q => ta σ H fun vs H1 => vs.length ≤ 1000 ∧ ∀ a, H1 a = none → sp (.ref a :: vs) (upd H1 a (exo a C none)) (fun u H2 => u = .non ∧ Q (.ref a) H2) (fun _ _ _ => False)
theorem pe_oex (T : OexC X.K C) (iC : PySem.W.findIn X.K (.ref C) "__init__" = some (some (.ref fI))) (tI : PySem.W.typeIn X.K (.ref fI) = some (.type "function"))
    (F1 : FnR X.prog X.w X.K X.mg X.base CX (k + 1) fI sp) (hr : Room (k + 2) X.A) (hx : Passes CX X (fun _ _ _ => False)) (hg : Gl X x) (hm : X.mg x = some (.ref C)) (ha : PA X (e :: es) ta)
    (hdb : (x == ("__debug__" : Str)) = false := by decide) (he : starEach (e :: es) X.env = (false, eval e X.env) :: starEach es X.env := by rfl) (hpl : (backTo pos (starEach es X.env)).any (·.1) = false := by rfl) :
    PE X (.Call (.Name x p) (e :: es) [] pos) (tOex C sp ta) := by
  refine ⟨fun pins s σ H Q I h => ?_⟩
  obtain ⟨nm, q, N, bs, bm, sn, sub, ab, col, dd, k0, k1, k2, k3, k5, hC, hbm⟩ := T.cls
  refine wpAny_Call_Name_kw (ld_glob I hg hm ?_ hdb)
  refine PySem.W.callWith_K (h₀ := X.base) I.ok.mod.kin T.kC (thn (ha.run pos pins s σ H _ I h) fun us s1 ⟨vs, H1, I1, r1, hz, q1⟩ => ⟨I1.kIn, ?_⟩) he hpl
  show wpAny _ _ (call (.ref C) us) _ _ _
  obtain ⟨hp, g, dr, tk, os⟩ := s1
  have hsz : hp.objs.size ≤ hp.objs.size + 1 := Nat.le_succ _
  have hn : H1 (hp.objs.size + 1) = none := I1.hok.fresh hsz
  have hq := q1 (hp.objs.size + 1) hn
  have kk : ∀ b o, hp.get? b = some o → ((hp.push (PySem.W.kdv_tup us)).push (PySem.HandSPX.excO C hp.objs.size)).get? b = some o := fun b o e => Heap.get?_push_of_some _ (Heap.get?_push_of_some _ e)
  have hget : ((hp.push (PySem.W.kdv_tup us)).push (PySem.HandSPX.excO C hp.objs.size)).get? (hp.objs.size + 1) = some (PySem.HandSPX.excO C hp.objs.size) := by heap_get
  have I2 : Inv X pins σ (upd H1 (hp.objs.size + 1) (exo (hp.objs.size + 1) C none)) ⟨(hp.push (PySem.W.kdv_tup us)).push (PySem.HandSPX.excO C hp.objs.size), g, dr, tk, os⟩ :=
    I1.laid (t' := tk) (a := hp.objs.size + 1) (o := exo (hp.objs.size + 1) C none) (h' := (hp.push (PySem.W.kdv_tup us)).push (PySem.HandSPX.excO C hp.objs.size)) kk hsz (exo_ok hget)
  have r2 : Vals (V.ref (hp.objs.size + 1) :: vs) (Value.ref (hp.objs.size + 1) :: us) := .cons rfl r1
  have hus : us.length ≤ sizeLine := by
    rw [← Paired.length r1, sizeLine_eq]
    omega
  refine wpAny_call (PySem.HandSPX.call_own F.excBase_ValueError (fun Y => PySem.HandSPX.refsVE_contains Y bm hbm) (I1.kIn _ _ hC) (PySem.W.looks_findIn I1.kIn iC) (fun self => PySem.W.bind_fn I1.kIn self tI) hus
    (codeAny_mono (F1 _ X.stack _ _ (Value.ref (hp.objs.size + 1) :: us) _ _ (fun _ _ _ => False) (hr.make C us []) (I2.env0.make C us []) r2 hq) fun r s' hq' => ?_))
  cases r with
  | error er => exact hx pins σ _ _ er s' I2 hq'
  | ok fl =>
    cases fl with
    | ret u =>
      obtain ⟨v, H', I3, rv, ev, q3⟩ := I2.after hq'
      subst ev
      exact ⟨rv, V.ref (hp.objs.size + 1), H', I3, rfl, q3⟩
    | next => exact False.elim hq'
    | brk => exact False.elim hq'
    | cont => exact False.elim hq'
/-- C(k=e, ..): by keywords alone -/
def tOexK (C : Addr) (m : Nat) (gV : List V → List V → List V) (sp : Sp) (tk : TA) : TE := fun σ H Q => tk σ H fun zs H1 => zs.length = m ∧ ∀ a, H1 a = none → sp (gV [.ref a] zs) (upd H1 a (exo a C none)) (fun u H2 => u = .non ∧ Q (.ref a) H2) (fun _ _ _ => False)
theorem pe_oexK (T : OexC X.K C) (iC : PySem.W.findIn X.K (.ref C) "__init__" = some (some (.ref fI))) (tI : PySem.W.typeIn X.K (.ref fI) = some (.type "function"))
    (F1 : FnOk X.prog X.w X.K X.mg X.base CX k fI fd ps sp) (hr : Room (k + 1) X.A) (hb : KBn X.K fd ps 1 ks g gV) (hx : Passes CX X (fun _ _ _ => False)) (hg : Gl X x) (hm : X.mg x = some (.ref C)) (hkw : PK X kws tk)
    (hall : (backToKw pos (keywordEach kws X.env)).all (·.1.isSome) = true := by rfl) (hks : (backToKw pos (keywordEach kws X.env)).filterMap (·.1) = ks := by rfl) (hdb : (x == ("__debug__" : Str)) = false := by decide)
    (hpl : ((backTo pos (starEach [] X.env)).any (·.1) || (backToKw pos (keywordEach kws X.env)).any (·.1.isNone)) = false := by rfl) :
    PE X (.Call (.Name x p) [] kws pos) (tOexK C ks.length gV sp tk) := by
  refine ⟨fun pins s σ H Q I h => ?_⟩
  obtain ⟨nm, q, N, bs, bm, sn, sub, ab, col, dd, k0, k1, k2, k3, k5, hC, hbm⟩ := T.cls
  refine wpAny_Call_Name_kw (ld_glob I hg hm ?_ hdb)
  refine PySem.W.callWith_KW0 (h₀ := X.base) I.ok.mod.kin T.kC hall (thn (hkw.run pos pins s σ H _ I h) fun ws s1 ⟨zs, H1, I1, rz, l2, q1⟩ => ⟨I1.kIn, ?_⟩) hpl
  rw [hks]
  show wpAny _ _ (call (.ref C) [] (ks.zip ws)) _ _ _
  obtain ⟨hp, g0, dr, tk, os⟩ := s1
  have hsz : hp.objs.size ≤ hp.objs.size + 1 := Nat.le_succ _
  have hn : H1 (hp.objs.size + 1) = none := I1.hok.fresh hsz
  have hq := q1 (hp.objs.size + 1) hn
  have kk : ∀ b o, hp.get? b = some o → ((hp.push (PySem.W.kdv_tup [])).push (PySem.HandSPX.excO C hp.objs.size)).get? b = some o := fun b o e => Heap.get?_push_of_some _ (Heap.get?_push_of_some _ e)
  have hget : ((hp.push (PySem.W.kdv_tup [])).push (PySem.HandSPX.excO C hp.objs.size)).get? (hp.objs.size + 1) = some (PySem.HandSPX.excO C hp.objs.size) := by heap_get
  have I2 : Inv X pins σ (upd H1 (hp.objs.size + 1) (exo (hp.objs.size + 1) C none)) ⟨(hp.push (PySem.W.kdv_tup [])).push (PySem.HandSPX.excO C hp.objs.size), g0, dr, tk, os⟩ :=
    I1.laid (t' := tk) (a := hp.objs.size + 1) (o := exo (hp.objs.size + 1) C none) (h' := (hp.push (PySem.W.kdv_tup [])).push (PySem.HandSPX.excO C hp.objs.size)) kk hsz (exo_ok hget)
  have r1 : Vals [V.ref (hp.objs.size + 1)] [Value.ref (hp.objs.size + 1)] := .cons rfl .nil
  refine wpAny_call (PySem.OwX.call_kw F.excBase_ValueError (fun Y => PySem.HandSPX.refsVE_contains Y bm hbm) (I1.kIn _ _ hC) (PySem.W.looks_findIn I1.kIn iC) (fun self => PySem.W.bind_fn I1.kIn self tI) (Nat.zero_le _)
    (codeAny_mono (F1.run _ X.stack _ _ ⟨[Value.ref (hp.objs.size + 1)], ks.zip ws⟩ (g [Value.ref (hp.objs.size + 1)] ws) _ _ (fun _ _ _ => False) (hr.make C [] (ks.zip ws)) (I2.env0.make C [] (ks.zip ws)) (hb.to _ [Value.ref (hp.objs.size + 1)] ws I2.kIn rfl (rz.length.symm.trans l2)) (hb.rel r1 rz) hq) fun r s' hq' => ?_))
  cases r with
  | error er => exact hx pins σ _ _ er s' I2 hq'
  | ok fl =>
    cases fl with
    | ret u =>
      obtain ⟨v, H', I3, rv, ev, q3⟩ := I2.after hq'
      subst ev
      exact ⟨rv, V.ref (hp.objs.size + 1), H', I3, rfl, q3⟩
    | next => exact False.elim hq'
    | brk => exact False.elim hq'
    | cont => exact False.elim hq'
/-- o.f, o an own error that keeps fields -/
def tXfV (K : PySem.W.Frag) (n : Str) (te : TE) : TE := fun σ H Q => te σ H fun y H1 => ∃ (a C dd : Addr) (fs : List (Str × V)) (v : V), y = .ref a ∧ XfC K C ∧ PySem.W.findIn K (.ref C) n = some none ∧ H1 a = some (exo a C (some dd)) ∧ H1 dd = some (exd dd fs) ∧ fs.lookup n = some v ∧ Q v H1
theorem pe_xfV {te : TE} {n : Str} (he : PE X e te) (hb : attributeBase e n X.env (eval e X.env) = eval e X.env := by rfl) : PE X (.Attribute e n pos) (tXfV X.K n te) := by
  refine ⟨fun pins s σ H Q I h => ?_⟩
  refine attr_of hb (thn (he.run pins s σ H _ I h) fun u s1 hh => ?_)
  obtain ⟨y, H1, I1, ry, a, C, dd, fs, v, ey, T, hno, ea, ed, l, q⟩ := hh
  subst ey
  obtain rfl : u = Value.ref a := ry
  obtain ⟨t1, ha⟩ := exo_at I1.hok ea
  obtain ⟨mA, hns, hr⟩ := exd_at I1.hok ed
  obtain ⟨od, ho, hl⟩ := lookIn_ns hns
  obtain ⟨u, hu, ru⟩ := RelO.some_of (v := v) (o := mA n) (by rw [← l]; exact hr n)
  have J : PySem.W.InstAt s1.heap a _ C (some od) := ⟨ha, rfl, rfl, ho⟩
  exact HandSPX.exc_get I1.kIn J T.ga T.gg T.exC (PySem.W.findObj_own T.hdC hno rfl (by rw [hl, hu])) (handed_of ru) ⟨v, H1, I1.tok _, ru, q⟩
/-- isinstance(o, T), o an own error with or without fields -/
def rIsXV (K : PySem.W.Frag) : List V → Hp → VK → Prop := fun xs H Q => ∃ (a C : Addr) (d : Option Addr) (c : V) (cv : Value) (b : Bool), xs = [.ref a, c] ∧ H a = some (exo a C d) ∧ (∀ dd, d = some dd → ∃ fs, H dd = some (exd dd fs)) ∧ ExcC K C ∧ (PySem.W.clsIn K C).isSome = true ∧ (∀ u, RelV c u → u = cv) ∧ PySem.W.kitOne K (.ref C) cv = some b ∧ Q (.bl b) H
theorem call_isXV : CallR X (.builtin "isinstance") (rIsXV X.K) := by
  intro pins s σ H xs us Q I r h
  obtain ⟨a, C, d, c, cv, b, rfl, ea, ed, T, hci, hcv, hk, q⟩ := h
  cases r with
  | cons rx r2 =>
    cases r2 with
    | cons rc r3 =>
      cases r3
      cases rx
      cases hcv _ rc
      obtain ⟨t1, ha⟩ := exo_at I.hok ea
      have J : ∃ od, PySem.W.InstAt s.heap a ({ cls := .ref C, dict := d, data := .fields #[.ref t1, .none, .none, .none, .bool false, .none] } : Obj) C od := by
        cases d with
        | none => exact ⟨none, ha, rfl, rfl, True.intro⟩
        | some dd =>
          obtain ⟨fs, hd⟩ := ed dd rfl
          obtain ⟨mA, hns, hr⟩ := exd_at I.hok hd
          obtain ⟨od, ho, hl⟩ := lookIn_ns hns
          exact ⟨some od, ha, rfl, rfl, ho⟩
      obtain ⟨od, J⟩ := J
      refine PySem.W.kia_one (PySem.W.kitx_exc (x := a) (od := od) hci T.hg T.hk T.hs T.ha T.hn T.ht T.hm) I.kIn J hk (fun z => by cases z) fun tk => ?_
      exact ⟨.bl b, H, I.kept fun _ _ e => e, rfl, q⟩
end
end Ow
end
section
set_option maxHeartbeats 4000000
/-! repr of data with dicts, where the table of modules is known to stand. -/
namespace Ow
open PySem PySem.Spec PyProof.Rows L2 StX
def keyD : Key → PyData
  | .inl i => .int i
  | .inr x => .str x
mutual
inductive Dq (K : PySem.W.Frag) (H : Hp) : V → PyData → Prop
  | non : Dq K H .non .none
  | bl (b : Bool) : Dq K H (.bl b) (.bool b)
  | int (i : Int) : Dq K H (.int i) (.int i)
  | str (x : Str) : Dq K H (.str x) (.str x)
  | lst {a : Addr} {xs : List V} {ds : List PyData} : SqL K H a xs → DqAll K H xs ds → Dq K H (.ref a) (.list ds)
  | tup {a : Addr} {xs : List V} {ds : List PyData} : SqT K H a xs → DqAll K H xs ds → Dq K H (.ref a) (.tuple ds)
  | dic {a : Addr} {kvs : List (Key × V)} {ds : List (PyData × PyData)} : H a = some (.dK kvs) → DqPs K H kvs ds → Dq K H (.ref a) (.dict ds)
inductive DqAll (K : PySem.W.Frag) (H : Hp) : List V → List PyData → Prop
  | nil : DqAll K H [] []
  | cons {v : V} {vs : List V} {d : PyData} {ds : List PyData} : Dq K H v d → DqAll K H vs ds → DqAll K H (v :: vs) (d :: ds)
inductive DqPs (K : PySem.W.Frag) (H : Hp) : List (Key × V) → List (PyData × PyData) → Prop
  | nil : DqPs K H [] []
  | cons {k : Key} {v : V} {vs : List (Key × V)} {d : PyData} {ds : List (PyData × PyData)} : Dq K H v d → DqPs K H vs ds → DqPs K H ((k, v) :: vs) ((keyD k, d) :: ds)
end
/-- the table of modules stands in the base -/
def SysB (base : Heap) : Prop := ∃ m, base.Ns sysModules m
section
variable {X : Cx} {pins : List (Addr × Obj)} {σ : L2.St} {H : Hp} {s : Shared}
theorem SysB.lst {a : Addr} {its : Array Value} {n : Nat} {o : Obj} (S : SysB X.base) (I : Inv X pins σ H s) (h : s.heap.get? a = some o) (hd : o.data = .seq its n) : sysModules ≠ a := fun e => by
  obtain ⟨m, ob, es, ep, e1, e2, _⟩ := S
  have z := (I.env0.bs _ _ e1).1
  rw [e, h] at z
  cases z
  rw [hd] at e2
  cases e2
theorem key_reads {h : Heap} {k : Key} {v : Value} (e : keyIs k v = true) : Reads h v (keyD k) [] := by
  rcases keyIs_shape e with ⟨i, t, rfl, rfl⟩ | ⟨x, t, rfl, rfl⟩
  · exact Reads.int i t
  · exact Reads.str x t
mutual
theorem Dq.reads (I : Inv X pins σ H s) : ∀ (d : PyData) (v : V) (u : Value), Dq X.K H v d → RelV v u → ∃ as, Reads s.heap u d as ∧ (SysB X.base → sysModules ∉ as)
  | .none, _, _, h, r => by
    cases h
    cases r
    exact ⟨_, Reads.none, fun _ => List.not_mem_nil⟩
  | .bool b, _, _, h, r => by
    cases h
    cases r
    exact ⟨_, Reads.bool b, fun _ => List.not_mem_nil⟩
  | .int i, _, _, h, r => by
    cases h
    obtain ⟨t, rfl⟩ := r
    exact ⟨_, Reads.int i t, fun _ => List.not_mem_nil⟩
  | .str x, _, _, h, r => by
    cases h
    obtain ⟨t, rfl⟩ := r
    exact ⟨_, Reads.str x t, fun _ => List.not_mem_nil⟩
  | .list ds, _, _, h, r => by
    cases h with
    | lst hs ha =>
      cases r
      obtain ⟨its, rv, ⟨o, n, ho, hc, _, hd⟩, _⟩ := I.list hs
      obtain ⟨as, hr, hq⟩ := Dq.readsAll I ds _ its ha rv
      exact ⟨_, Reads.list ho hc hd hr, fun S z => by
        rcases List.mem_cons.mp z with e | e
        · exact S.lst I ho hd e
        · exact hq S e⟩
  | .tuple ds, _, _, h, r => by
    cases h with
    | tup hs ha =>
      cases r
      obtain ⟨its, rv, ⟨o, ho, hc, n, hd⟩, _⟩ := I.tuple hs
      obtain ⟨as, hr, hq⟩ := Dq.readsAll I ds _ its ha rv
      exact ⟨_, Reads.tuple ho hc hd hr, hq⟩
  | .dict ds, _, _, h, r => by
    cases h with
    | dic hs ha =>
      cases r
      obtain ⟨hlen, ns, vs, rv, o, es, ep, ho, hc, hd, _, hp, _⟩ := I.hok _ _ hs
      obtain ⟨as, bs, h1, h2, h3⟩ := Dq.readsPs I ds _ vs es.toList ha rv hp
      refine ⟨_, Reads.dict ho hc.1 hd h1 h2, fun S z => ?_⟩
      rcases List.mem_append.mp z with e | e
      · rcases List.mem_cons.mp e with e | e
        · rw [← e] at ns
          exact absurd ns (by decide)
        · exact (h3 S).1 e
      · exact (h3 S).2 e
theorem Dq.readsAll (I : Inv X pins σ H s) : ∀ (ds : List PyData) (vs : List V) (us : List Value), DqAll X.K H vs ds → Vals vs us → ∃ as, ReadsAll s.heap us ds as ∧ (SysB X.base → sysModules ∉ as)
  | [], _, _, h, r => by
    cases h
    cases r
    exact ⟨_, ReadsAll.nil, fun _ => List.not_mem_nil⟩
  | d :: ds, _, _, h, r => by
    cases h with
    | cons h1 h2 =>
      cases r with
      | cons r1 r2 =>
        obtain ⟨as, q1, s1⟩ := Dq.reads I d _ _ h1 r1
        obtain ⟨bs, q2, s2⟩ := Dq.readsAll I ds _ _ h2 r2
        exact ⟨_, ReadsAll.cons q1 q2, fun S z => (List.mem_append.mp z).elim (s1 S) (s2 S)⟩
theorem Dq.readsPs (I : Inv X pins σ H s) : ∀ (ds : List (PyData × PyData)) (kvs : List (Key × V)) (vs : List (Key × Value)) (es : List DictEntry), DqPs X.K H kvs ds → KV kvs vs → Pairs (mixKind X.prog X.w) es vs →
    ∃ as bs, ReadsAll s.heap (es.map (·.key)) (ds.map (·.1)) as ∧ ReadsAll s.heap (es.map (·.val)) (ds.map (·.2)) bs ∧ (SysB X.base → sysModules ∉ as ∧ sysModules ∉ bs)
  | [], _, _, _, h, r, p => by
    cases h
    cases r
    cases p
    exact ⟨_, _, ReadsAll.nil, ReadsAll.nil, fun _ => ⟨List.not_mem_nil, List.not_mem_nil⟩⟩
  | (kd, d) :: ds, _, _, _, h, r, p => by
    cases h with
    | cons h1 h2 =>
      cases r with
      | cons r1 r2 =>
        cases p with
        | cons p1 p2 p3 =>
          obtain ⟨e1, rv⟩ := r1
          obtain ⟨bs, q2, s2⟩ := Dq.reads I d _ _ h1 rv
          obtain ⟨as', bs', q3, q4, s3⟩ := Dq.readsPs I ds _ _ _ h2 r2 p3
          subst e1
          rw [← p2] at q2
          refine ⟨_, _, ReadsAll.cons (key_reads p1) q3, ReadsAll.cons q2 q4, fun S => ⟨?_, fun z => ?_⟩⟩
          · exact (s3 S).1
          · exact (List.mem_append.mp z).elim (s2 S) (s3 S).2
end
end
section
variable {X : Cx} {CX : CXT} {n : Nat} {sp : Sp} {E : XK}
/-- repr of data, dicts too: its text -/
def rReprQ (K : PySem.W.Frag) : List V → Hp → VK → Prop := fun xs H Q => ∃ (x : V) (d : PyData), xs = [x] ∧ Dq K H x d ∧ d.showable = true ∧ d.depth ≤ 8 ∧ d.shown.length ≤ sizeLine ∧ Q (.str d.shown) H
theorem call_reprQ (sb : SysB X.base) (gd : X.A.guards = some []) (hu : X.A.units + 64 < cLine) : CallR X (.builtin "repr") (rReprQ X.K) := by
  intro pins s σ H xs us Q I r h
  obtain ⟨x, d, rfl, hd, hs, hdp, hsz, q⟩ := h
  obtain ⟨u, rfl, ru⟩ := vals1 r
  have fin : ∀ (h' : Heap) (tk : Nat) (u : Tok), (∀ b o, s.heap.get? b = some o → h'.get? b = some o) → EP X pins σ Q (.str d.shown u) { s with heap := h', toks := tk } := fun h' tk u k => ⟨.str d.shown, H, I.kept (t' := tk) k, ⟨u, rfl⟩, q⟩
  obtain ⟨as, rd, ns⟩ := Dq.reads I _ _ _ hd ru
  cases hd with
  | non => cases ru; exact PySem.P.repr_of_none (fin s.heap _ _ fun _ _ e => e)
  | bl b => cases ru; exact PySem.P.repr_of_bool (by cases b <;> exact fin s.heap _ _ fun _ _ e => e)
  | int i =>
    obtain ⟨t, rfl⟩ := ru
    have hi : i.natAbs.log2 < 1920 := of_decide_eq_true hs
    exact PySem.P.repr_of_int hi (fin s.heap _ _ fun _ _ e => e)
  | str z => obtain ⟨t, rfl⟩ := ru; exact PySem.P.repr_of_str (fin s.heap _ _ fun _ _ e => e) hsz
  | lst hq ha =>
    cases ru
    exact repr_of_reads' rd hs (fun _ => ns sb) gd (by omega) (fun _ _ e => e) (fun h' u tk k => fin h' tk u k) hsz
  | tup hq ha =>
    cases ru
    exact repr_of_reads' rd hs (fun _ => ns sb) gd (by omega) (fun _ _ e => e) (fun h' u tk k => fin h' tk u k) hsz
  | dic hq ha =>
    cases ru
    exact repr_of_reads' rd hs (fun _ => ns sb) gd (by omega) (fun _ _ e => e) (fun h' u tk k => fin h' tk u k) hsz
end
end Ow
end
section
set_option maxHeartbeats 4000000
namespace Ow
open PySem PySem.Spec PyProof.Rows L2 StX
/-! ### the end of a law whose def wants to know that nothing is being shown -/
section
variable {P : Program} {w : World} {K : PySem.W.Frag} {mg mb : Str → Option Value} {k : Nat} {fa a : Addr} {sp : Sp} {s1 : Shared} {vs : List Value} {ns : List Int}
/-- the call, from one abstract heap that tracks the script alone, or nothing -/
theorem end_fromB (KX : K.In s1.heap) (hns : s1.heap.Ns mainGlobals mg) (hb : s1.heap.Ns builtinsNs mb) (hbb : ∀ x : Str, x ≠ "__name__" → mb x = bootBuiltins x) (hlim : s1.heap.NoLimit) (hsy : SysB s1.heap) (hg : s1.gens = #[]) (hr : Room k callerA)
    (F : ∀ base : Heap, K.In base → base.Ns mainGlobals mg → SysB base → FnG P w K mg base CX0 k fa sp) {H : Hp} (hO : Only H) (hok : HOk P w H s1.heap) (dom : ∀ b u, H b = some u → K.lookup b = none ∧ ∃ o items n, s1.heap.get? b = some o ∧ o.data = .seq items n)
    (hsp : sp [.ref a] H (fun v _ => v = .bl true) fun _ _ _ => False) :
    codeAny (model P w) callerA (.call (.ref fa) ⟨[.ref a], []⟩) (fun r s' => r = .ok (.ret (.bool true)) ∧ OldK s1.heap s'.heap ∧ s'.os = s1.os ∧ AllBare s'.gens) s1 := by
  let base := hidT s1.heap H
  have dicts : ∀ {b : Addr} {o : Obj} {es : Array DictEntry} {ep : Nat}, s1.heap.get? b = some o → o.data = .dict es ep → base.get? b = some o := fun {b o es ep} e d => by
    refine hidT_get e ?_
    cases q : H b with
    | none => rfl
    | some u =>
      obtain ⟨_, o2, items, n, e2, d2⟩ := dom b u q
      rw [e2] at e
      cases e
      rw [d2] at d
      cases d
  have names : ∀ {b : Addr} {m : Str → Option Value}, s1.heap.Ns b m → base.Ns b m := fun z => by
    obtain ⟨o, es, ep, e, d, r⟩ := z
    exact ⟨o, es, ep, dicts e d, d, r⟩
  have hK : K.In base := fun b o e => by
    refine hidT_get (KX b o e) ?_
    cases q : H b with
    | none => rfl
    | some u =>
      have z := (dom b u q).1
      rw [e] at z
      cases z
  have lim : base.NoLimit := by
    obtain ⟨m, h1, h2⟩ := hlim
    exact ⟨m, names h1, h2⟩
  have e0 : Env0 P w K mg base callerA [] s1 H :=
    { frames := rfl, mod := ⟨hK, names hns, ⟨mb, names hb, hbb⟩, lim⟩, bs := fun b o e => of_hidT e, bsz := Nat.le_of_eq (hidT_size _ _), funs := trivial, frf := fun b hb => (List.not_mem_nil hb).elim, hok := hok, bare := .of_eq hg }
  refine codeAny_mono (F base hK (names hns) (let ⟨m, z⟩ := hsy; ⟨m, names z⟩) callerA [] s1 H [.ref a] [.ref a] _ _ hr rfl e0 (.cons rfl .nil) hsp) fun r s' h => ?_
  cases r with
  | error e => exact False.elim h
  | ok fl =>
    cases fl with
    | ret u =>
      obtain ⟨v, H2, os, bare, un, ok2, rv, q⟩ := h
      subst q
      cases rv
      refine ⟨rfl, OldK.of_keep fun b o e => ?_, os, bare⟩
      cases q : H b with
      | none => exact un.keep b o e q (fun z => List.not_mem_nil z) (fun z => List.not_mem_nil z)
      | some u =>
        rcases hO b with z | ⟨ob, xs, z⟩
        · rw [q] at z
          cases z
        · have e1 := (hok b _ z).1
          have e2 := (ok2 b _ (un.frzs b ob _ z)).1
          rw [e] at e1
          cases e1
          exact e2
    | next => exact False.elim h
    | brk => exact False.elim h
    | cont => exact False.elim h
theorem end_callGB (KX : K.In s1.heap) (hns : s1.heap.Ns mainGlobals mg) (hb : s1.heap.Ns builtinsNs mb) (hbb : ∀ x : Str, x ≠ "__name__" → mb x = bootBuiltins x) (hlim : s1.heap.NoLimit) (hsy : SysB s1.heap) (hg : s1.gens = #[]) (hr : Room k callerA)
    (ha : s1.heap.get? a = some { cls := .type "list", data := .seq vs.toArray }) (hi : IntsAre vs ns) (hl : ns.length ≤ sizeLine) (F : ∀ base : Heap, K.In base → base.Ns mainGlobals mg → SysB base → FnG P w K mg base CX0 k fa sp)
    (hsp : ∀ H : Hp, Only H → SqL K H a (ns.map V.int) → sp [.ref a] H (fun v _ => v = .bl true) fun _ _ _ => False) :
    codeAny (model P w) callerA (.call (.ref fa) ⟨[.ref a], []⟩) (fun r s' => r = .ok (.ret (.bool true)) ∧ OldK s1.heap s'.heap ∧ s'.os = s1.os ∧ AllBare s'.gens) s1 := by
  have rv := vals_ints hi
  have hl2 : (ns.map V.int).length ≤ sizeLine := by rw [List.length_map]; exact hl
  cases hk : K.lookup a with
  | some o =>
    have e := KX a o hk
    rw [ha] at e
    cases e
    refine end_fromB KX hns hb hbb hlim hsy hg hr F (H := fun _ => none) (fun _ => .inl rfl) (fun b u z => by cases z) (fun b u z => by cases z) (hsp _ (fun _ => .inl rfl) ?_)
    exact .inr ⟨_, vs.toArray, _, hk, rfl, rfl, rfl, by rw [List.size_toArray, hi.length]; exact hl, by simpa using rv⟩
  | none =>
    let o : Obj := { cls := .type "list", data := .seq vs.toArray }
    let H : Hp := fun b => if b = a then some (.frz o (.lst (ns.map V.int))) else none
    have H1 : H a = some (.frz o (.lst (ns.map V.int))) := if_pos rfl
    have H0 : ∀ b u, H b = some u → b = a ∧ u = .frz o (.lst (ns.map V.int)) := fun b u z => by
      by_cases e : b = a
      · subst e
        rw [H1] at z
        cases z
        exact ⟨rfl, rfl⟩
      · have z0 : H b = none := if_neg e
        rw [z0] at z
        cases z
    have hO : Only H := fun b => by
      by_cases e : b = a
      · subst e; exact .inr ⟨_, _, H1⟩
      · exact .inl (if_neg e)
    refine end_fromB KX hns hb hbb hlim hsy hg hr F (H := H) hO (fun b u z => ?_) (fun b u z => ?_) (hsp _ hO (.inl (.inr ⟨_, H1⟩)))
    · obtain ⟨rfl, rfl⟩ := H0 b u z
      exact ⟨ha, hl2, vs, _, rv, ha⟩
    · obtain ⟨rfl, rfl⟩ := H0 b u z
      exact ⟨hk, _, _, _, ha, rfl⟩
end
theorem walk_ofGB {l : PySem.W.OpenLaw} {n k : Nat} {q : Program} {loose : List Str} {XP : (Str → Option Value) → Heap → Prop} {YP : World → Heap → Prop} {d : DefRec} {K : Params → PySem.W.Frag} {sp : World → Sp}
    (hi : importsNone q = true) (hn : l.most = some n) (hn2 : n ≤ sizeLine) (hdf : d.params.defaults = []) (hr : Room k callerA) (hY : ∀ (w : World) (h : Heap), YP w h → (K w.params).In h)
    (F : ∀ (w : World) (mg : Str → Option Value) (fa : Addr) (h : Heap), (K w.params).In h → h.Ns mainGlobals mg → mg d.name = some (.ref fa) →
      ∀ base : Heap, (K w.params).In base → base.Ns mainGlobals mg → SysB base → FnG l.prog w (K w.params) mg base CX0 k fa (sp w))
    (hsp : ∀ (w : World) (H : Hp) (a : Addr) (ns : List Int), ns.length ≤ n → Only H → SqL (K w.params) H a (ns.map V.int) → sp w [.ref a] H (fun v _ => v = .bl true) fun _ _ _ => False) :
    PySem.W.WalkO q loose XP YP l.row.toRowW d [] (fun f vs => PySem.call f vs) := by
  refine Att.attach_call hn hdf fun w s0 s1 mg mb fa o pm cd doc a vs ns G Y ho hd hcd hmg hobj hints hlen hg => ?_
  have KX := hY w _ Y
  exact end_callGB KX G.T.g G.T.b G.T.builtins G.T.nolimit (let ⟨m, z, _⟩ := (G.T.seer hi).mods; ⟨m, z⟩) hg hr hobj hints (Nat.le_trans hlen hn2) (F w mg fa _ KX G.T.g hmg) fun H hO hS => hsp w H a ns hlen hO hS
end Ow
end
section
set_option maxHeartbeats 4000000
/-! Own errors as values: what holds of one, classes told by the order of their bases, readings of the makings. -/
namespace Ow
open PySem PySem.Spec PyProof.Rows L2 StX
/-- the class's order of bases: itself, the package's base, ValueError, .. -/
def mroE (K : PySem.W.Frag) (C B : Addr) : Bool := match PySem.W.clsIn K C with
  | some cd => cd.mro == [.ref C, .ref B, .type "ValueError", .type "Exception", .type "BaseException", .type "object"]
  | none => false
theorem mroE_mk {K : PySem.W.Frag} {C B : Addr} {cd : PySem.ClassData} (h : PySem.W.clsIn K C = some cd) (m : (cd.mro == [.ref C, .ref B, .type "ValueError", .type "Exception", .type "BaseException", .type "object"]) = true) : mroE K C B = true := by
  unfold mroE
  rw [h]
  exact m
theorem mroE_sub {K : PySem.W.Frag} {C B : Addr} (h : mroE K C B = true) (t : Value) : PySem.W.subIn K (.ref C) t = some (([.ref C, .ref B, .type "ValueError", .type "Exception", .type "BaseException", .type "object"] : List Value).contains t) := by
  unfold mroE at h
  show PySem.W.mroIn K C t = _
  unfold PySem.W.mroIn
  cases e : PySem.W.clsIn K C with
  | none => rw [e] at h; cases h
  | some cd =>
    rw [e] at h
    have q := beq_iff_eq.mp h
    show (if cd.mro.isEmpty then none else some (cd.mro.contains t)) = _
    rw [q]
    rfl
theorem mroE_some {K : PySem.W.Frag} {C B : Addr} (h : mroE K C B = true) : (PySem.W.clsIn K C).isSome = true := by
  unfold mroE at h
  cases e : PySem.W.clsIn K C with
  | none => rw [e] at h; cases h
  | some cd => rfl
/-- isinstance of an own error: its class, the base, a class beside it, ValueError -/
theorem kitE {K : PySem.W.Frag} {C B D : Addr} (h : mroE K C B = true) (i : (PySem.W.clsIn K D).isSome = true) (t : PySem.W.typeIn K (.ref D) = Option.some (.type "type")) (ne : D ≠ C) (nb : D ≠ B) : PySem.W.kitOne K (.ref C) (.ref D) = Option.some false := by
  refine kit_err i t ?_ (beq_eq_false_iff_ne.mpr fun z => ne (by cases z; rfl))
  rw [mroE_sub h]
  simp [ne, nb]
theorem kitEB {K : PySem.W.Frag} {C B : Addr} (h : mroE K C B = true) (i : (PySem.W.clsIn K B).isSome = true) (t : PySem.W.typeIn K (.ref B) = Option.some (.type "type")) (ne : C ≠ B) : PySem.W.kitOne K (.ref C) (.ref B) = Option.some true := by
  refine kit_err i t ?_ (beq_eq_false_iff_ne.mpr fun z => ne (by cases z; rfl))
  rw [mroE_sub h]
  simp
theorem kitEV {K : PySem.W.Frag} {C B : Addr} (h : mroE K C B = true) : PySem.W.kitOne K (.ref C) (.type "ValueError") = Option.some true := by
  unfold PySem.W.kitOne
  rw [if_neg (by simp)]
  show PySem.W.subIn K (.ref C) (.type "ValueError") = _
  rw [mroE_sub h]
  simp
/-- an own error with these fields -/
def EO (H : Hp) (e C : Addr) (fs : List (Str × V)) : Prop := ∃ d, H e = some (exo e C (some d)) ∧ H d = some (exd d fs)
theorem EO.same {H H' : Hp} {e C : Addr} {fs : List (Str × V)} (x : EO H e C fs) (s : ∀ b o, H b = some o → H' b = some o) : EO H' e C fs := by
  obtain ⟨d, h1, h2⟩ := x
  exact ⟨d, s _ _ h1, s _ _ h2⟩
theorem made_keeps {H : Hp} {e d : Addr} {C : Addr} {fs : List (Str × V)} (ha : H e = none) (hd : H d = none) (ne : d ≠ e) :
    (∀ b o, H b = some o → upd (upd (upd H e (exo e C none)) d (exd d fs)) e (exo e C (some d)) b = some o) ∧ EO (upd (upd (upd H e (exo e C none)) d (exd d fs)) e (exo e C (some d))) e C fs := by
  refine ⟨fun b o q => ?_, d, upd_same, by rw [upd_ne ne]; exact upd_same⟩
  have n1 : b ≠ e := ne_of_none q ha
  have n2 : b ≠ d := ne_of_none q hd
  rw [upd_ne n1, upd_ne n2, upd_ne n1]
  exact q
section
variable {H : Hp} {C : Addr} {n m : Str} {v u : V} {Q : VK}
theorem oex1 (k : ∀ (e : Addr) (H' : Hp), (∀ b o, H b = some o → H' b = some o) → EO H' e C [(n, v)] → Q (.ref e) H') :
    [v].length ≤ 1000 ∧ ∀ a, H a = none → spErr1 C n (.ref a :: [v]) (upd H a (exo a C none)) (fun z H2 => z = .non ∧ Q (.ref a) H2) (fun _ _ _ => False) := by
  refine ⟨Nat.le_of_ble_eq_true rfl, fun a ha => ⟨a, v, rfl, upd_same, fun d hd ne => ⟨rfl, ?_⟩⟩⟩
  rw [upd_ne ne] at hd
  exact k a _ (made_keeps ha hd ne).1 (made_keeps ha hd ne).2
theorem oex2 (k : ∀ (e : Addr) (H' : Hp), (∀ b o, H b = some o → H' b = some o) → EO H' e C [(m, u), (n, v)] → Q (.ref e) H') :
    [v, u].length ≤ 1000 ∧ ∀ a, H a = none → spErr2 C n m (.ref a :: [v, u]) (upd H a (exo a C none)) (fun z H2 => z = .non ∧ Q (.ref a) H2) (fun _ _ _ => False) := by
  refine ⟨Nat.le_of_ble_eq_true rfl, fun a ha => ⟨a, v, u, rfl, upd_same, fun d hd ne => ⟨rfl, ?_⟩⟩⟩
  rw [upd_ne ne] at hd
  exact k a _ (made_keeps ha hd ne).1 (made_keeps ha hd ne).2
/-- by keywords, the other way round -/
theorem oexK2 {gV : List V → List V → List V} (hg : ∀ a, gV [V.ref a] [u, v] = [.ref a, v, u]) (k : ∀ (e : Addr) (H' : Hp), (∀ b o, H b = some o → H' b = some o) → EO H' e C [(m, u), (n, v)] → Q (.ref e) H') :
    [u, v].length = 2 ∧ ∀ a, H a = none → spErr2 C n m (gV [.ref a] [u, v]) (upd H a (exo a C none)) (fun z H2 => z = .non ∧ Q (.ref a) H2) (fun _ _ _ => False) := by
  refine ⟨rfl, fun a ha => ?_⟩
  rw [hg]
  exact (oex2 k).2 a ha
end
end Ow
end
section
set_option maxHeartbeats 4000000
/-! An own error without a def of its own, made of nothing, as a value. -/
namespace Ow
open PySem PySem.Spec PyProof.Rows L2 StX
theorem pe_exc0 {X : Cx} {C : Addr} {bmB : List Value} {B newId initId : String} {x : Str} {p pos : Pos} (F : ExcBaseFacts B newId initId bmB) (q : PySem.W.excIn X.K C bmB newId = true) (gC : X.mg x = some (.ref C)) (kC : PySem.W.keepIn X.K (.ref C) = true) (hg : Gl X x)
    (hdb : (x == ("__debug__" : Str)) = false := by decide) : PE X (.Call (.Name x p) [] [] pos) (fun σ H Q => ∀ a, H a = none → Q (.ref a) (upd H a (exo a C none))) := by
  refine ⟨fun pins s σ H Q I h => ?_⟩
  refine wpAny_Call_Name_kw (ld_glob I hg gC ?_ hdb)
  refine PySem.W.callWith_K0 I.kIn kC ?_
  obtain ⟨bm, N, nm, qn, bs, hdct, sn, sub, ab, col, dd, k0, k1, k2, k3, k5, mN, hC, hN, hni, T⟩ := exc_obj I.kIn q
  obtain ⟨hp, g, dr, tk, os⟩ := s
  refine wpAny_call_exc_subT F T hC hN hni (fun h' a hm => ?_) (by show 0 ≤ sizeLine; exact Nat.zero_le _)
  have hn : H a = none := I.hok.gone hm.new
  obtain ⟨t, ht, _, _⟩ := hm.there
  exact ⟨.ref a, upd H a (exo a C none), I.laidN hm.keeps hm.new hn (exo_ok ht), rfl, h a hn⟩
end Ow
end
section
set_option maxHeartbeats 4000000
/-! New objects and comprehensions said once more, so that what is wanted behind them can be read off (the readings unfolded by simp). -/
namespace Ow
open PySem PySem.Spec PyProof.Rows L2 StX
/-- p is a new object o, all else stays -/
structure Fresh (H H' : Hp) (p : Addr) (o : HO) : Prop where
  same : Same H H'
  at_ : H' p = some o
  new : H p = none
theorem Fresh.get {H H' : Hp} {p : Addr} {o : HO} (f : Fresh H H' p o) {b : Addr} {u : HO} (h : H b = some u) : H' b = some u := f.same _ _ h
theorem Fresh.ne {H H' : Hp} {p : Addr} {o : HO} (f : Fresh H H' p o) {b : Addr} {u : HO} (h : H b = some u) : b ≠ p := fun e => by
  rw [e, f.new] at h
  cases h
def kN (o : HO) (Q : VK) : Hp → Prop := fun H => ∀ p, H p = none → Q (.ref p) (upd H p o)
def kNew (f : List V → HO) (Q : VK) : List V → Hp → Prop := fun xs H => xs.length ≤ sizeLine ∧ kN (f xs) Q H
theorem fresh_upd {H : Hp} {p : Addr} {o : HO} (h : H p = none) : Fresh H (upd H p o) p o := ⟨fun b u e => by rw [upd_ne (ne_of_none e h)]; exact e, upd_same, h⟩
theorem kN.mk {o : HO} {Q : VK} {H : Hp} (k : ∀ p H', Fresh H H' p o → Q (.ref p) H') : kN o Q H := fun p h => k p _ (fresh_upd h)
theorem kNew.mk {f : List V → HO} {Q : VK} {xs : List V} {H : Hp} (hs : xs.length ≤ sizeLine) (k : ∀ p H', Fresh H H' p (f xs) → Q (.ref p) H') : kNew f Q xs H := ⟨hs, kN.mk k⟩
theorem tLst_k (t : TA) : tLst t = fun σ H Q => t σ H (kNew .lst Q) := rfl
theorem tTup_k (t : TA) : tTup t = fun σ H Q => t σ H (kNew .tup Q) := rfl
theorem rNewStrs_k (ys : List Str) : rNewStrs ys = fun H Q => kN (.lst (ys.map V.str)) Q H := rfl
theorem rCat_k : rCat = fun x y H Q => ∃ l b xs zs, x = .ref l ∧ y = .ref b ∧ H l = some (.lst xs) ∧ H b = some (.lst zs) ∧ xs.length + zs.length ≤ sizeLine ∧ kN (.lst (xs ++ zs)) Q H := rfl
theorem rRep_k : rRep = fun x y H Q => ∃ l k xs, x = .ref l ∧ y = .int k ∧ H l = some (.lst xs) ∧ -(2 ^ 63) ≤ k ∧ k < 2 ^ 63 ∧ xs.length * k.toNat ≤ sizeLine ∧ kN (.lst (List.replicate k.toNat xs).flatten) Q H := rfl
theorem rSlL_k (K : PySem.W.Frag) : rSlL K = fun x lo hi H Q => ∃ a xs, x = .ref a ∧ SqL K H a xs ∧ kN (.lst (cutV xs lo hi)) Q H := rfl
/-- a list is changed -/
def kPut (l : Addr) (o : HO) (Q : VK) : Hp → Prop := fun H => Q .non (upd H l o)
structure Put (H H' : Hp) (l : Addr) (o : HO) : Prop where
  at_ : H' l = some o
  else_ : ∀ b, b ≠ l → H' b = H b
theorem kPut.mk {l : Addr} {o : HO} {Q : VK} {H : Hp} (k : ∀ H', Put H H' l o → Q .non H') : kPut l o Q H := k _ ⟨upd_same, fun b n => upd_ne n⟩
theorem Put.get {H H' : Hp} {l : Addr} {o : HO} (f : Put H H' l o) {b : Addr} {u : HO} (n : b ≠ l) (h : H b = some u) : H' b = some u := (f.else_ b n).trans h
theorem rAppend_k : rAppend = fun x vs H Q => ∃ l xs y, x = .ref l ∧ vs = [y] ∧ H l = some (.lst xs) ∧ xs.length < sizeLine ∧ kPut l (.lst (xs ++ [y])) Q H := rfl
section
variable {X : Cx}
def rListOf (K : PySem.W.Frag) : List V → Hp → VK → Prop := fun xs H Q => ∃ p ys, xs = [.ref p] ∧ (SqL K H p ys ∨ SqT K H p ys) ∧ kN (.lst ys) Q H
theorem call_listK : CallR X (.type "list") (rListOf X.K) := call_list_of
def rTupOf (K : PySem.W.Frag) : List V → Hp → VK → Prop := fun xs H Q => ∃ p ys, xs = [.ref p] ∧ ((SqL K H p ys ∧ kN (.tup ys) Q H) ∨ (SqT K H p ys ∧ Q (.ref p) H))
theorem call_tupleK : CallR X (.type "tuple") (rTupOf X.K) := call_tuple_of
def rLenSeq (K : PySem.W.Frag) : List V → Hp → VK → Prop := fun xs H Q => ∃ p ys, xs = [.ref p] ∧ (SqL K H p ys ∨ SqT K H p ys) ∧ Q (.int ys.length) H
theorem call_lenK : CallR X (.builtin "len") (rLenSeq X.K) := call_len_seq
end
/-! ### comprehensions whose elements only make new objects -/
def kLc (J : It) (g : TG) (tt : TT) (te : TE) (vs : List Nat) (σ : L2.St) (Q : VK) (H1 : Hp) : Prop := ∀ D, H1 D = none → ∃ W : Nat → Nat → Hp → Prop, (∃ m, W 0 m (upd H1 D (.lst []))) ∧ ∀ i m H, W i m H →
  (J.stop i H ∧ Q (.ref D) H) ∨ (J.go i H ∧ ∃ Nx : Hp → Prop, (∀ H', Nx H' → ∃ m', m' < m ∧ W (i + 1) m' H') ∧ ∀ x H', J.yld i H x H' → g x (wipe σ vs) H' fun σ2 H2 => wipe σ2 vs = wipe σ vs ∧ tt σ2 H2 fun b H3 =>
    if b = true then te σ2 H3 fun y H4 => ∃ acc, H4 D = some (.lst acc) ∧ acc.length < sizeLine ∧ Nx (upd H4 D (.lst (acc ++ [y]))) else Nx H3)
theorem tLc_k (wi : TI) (g : TG) (tt : TT) (te : TE) (vs : List Nat) : tLc wi g tt te vs = fun σ H Q => wi σ H fun J H1 => kLc J g tt te vs σ Q H1 := rfl
/-- within the comprehension: H1 as it was ahead of it, the new list at D -/
structure LcIn (H1 H : Hp) (D : Addr) (acc : List V) : Prop where
  same : Same H1 H
  at_ : H D = some (.lst acc)
  new : H1 D = none
def kApp (D : Addr) (N : Hp → Prop) : VK := fun y H4 => ∃ acc, H4 D = some (.lst acc) ∧ acc.length < sizeLine ∧ N (upd H4 D (.lst (acc ++ [y])))
theorem kApp.mk {H1 H H4 : Hp} {D : Addr} {acc acc' : List V} {y : V} (c : LcIn H1 H D acc) (s : Same H H4) (hl : acc.length < sizeLine) (h : acc ++ [y] = acc') : kApp D (fun H' => LcIn H1 H' D acc') y H4 := by
  refine ⟨acc, s _ _ c.at_, hl, ⟨fun b u e => ?_, by rw [upd_same, h], c.new⟩⟩
  rw [upd_ne (ne_of_none e c.new)]
  exact s _ _ (c.same _ _ e)
theorem kLc.all {J : It} {n : Nat} {G : Hp → Prop} {Y : Nat → Hp → V → Hp → Prop} (w : Walk J n G Y) {g : TG} {tt : TT} {te : TE} {vs : List Nat} {σ : L2.St} {Q : VK} {H1 : Hp} (outs : Nat → List V) (h0 : outs 0 = []) (hG : ∀ H, Same H1 H → G H)
    (hs : ∀ D i x H H', i < n → LcIn H1 H D (outs i) → Y i H x H' → g x (wipe σ vs) H' fun σ2 H2 => wipe σ2 vs = wipe σ vs ∧ tt σ2 H2 fun b H3 => if b = true then te σ2 H3 (kApp D fun H' => LcIn H1 H' D (outs (i + 1))) else LcIn H1 H3 D (outs (i + 1)))
    (hd : ∀ D H', Fresh H1 H' D (.lst (outs n)) → Q (.ref D) H') : kLc J g tt te vs σ Q H1 := fun D hD =>
  lc_it w (fun i H => LcIn H1 H D (outs i)) ⟨(fresh_upd hD).same, by rw [h0]; exact upd_same, hD⟩ (fun i H _ c => hG H c.same) (fun i x H H' hi c y => hs D i x H H' hi c y) fun H c => hd D H ⟨c.same, c.at_, c.new⟩
theorem kLc.map {J : It} {n : Nat} {G : Hp → Prop} {Y : Nat → Hp → V → Hp → Prop} (w : Walk J n G Y) {g : TG} {tt : TT} {te : TE} {vs : List Nat} {σ : L2.St} {Q : VK} {H1 : Hp} (out : List V) (hn : out.length = n) (hG : ∀ H, Same H1 H → G H)
    (hs : ∀ D i x H H', i < n → LcIn H1 H D (out.take i) → Y i H x H' → g x (wipe σ vs) H' fun σ2 H2 => wipe σ2 vs = wipe σ vs ∧ tt σ2 H2 fun b H3 => if b = true then te σ2 H3 (kApp D fun H' => LcIn H1 H' D (out.take (i + 1))) else LcIn H1 H3 D (out.take (i + 1)))
    (hd : ∀ D H', Fresh H1 H' D (.lst out) → Q (.ref D) H') : kLc J g tt te vs σ Q H1 :=
  kLc.all w (fun i => out.take i) (by simp) hG hs fun D H' f => hd D H' (by rw [← hn, List.take_length] at f; exact f)
theorem kApp.at {H1 H H4 : Hp} {D : Addr} {out : List V} {i : Nat} {y : V} (c : LcIn H1 H D (out.take i)) (s : Same H H4) (hl : out.length ≤ sizeLine) (h : out[i]? = some y) : kApp D (fun H' => LcIn H1 H' D (out.take (i + 1))) y H4 := by
  have hi : i < out.length := by
    by_cases q : i < out.length
    · exact q
    · rw [List.getElem?_eq_none (by omega)] at h
      cases h
  refine kApp.mk c s (by rw [List.length_take]; omega) ?_
  rw [List.take_add_one, h]
  rfl
def kFor (J : It) (g : TG) (tb : TS) : TS := fun D σ H => ∃ W : Nat → Nat → L2.St → Hp → Prop, (∃ m, W 0 m σ H) ∧ ∀ i m σ H, W i m σ H →
  (J.stop i H ∧ D.nx σ H) ∨ (J.go i H ∧ ∃ N : L2.St → Hp → Prop, (∀ σ' H', N σ' H' → ∃ m', m' < m ∧ W (i + 1) m' σ' H') ∧ ∀ x H', J.yld i H x H' → g x σ H' fun σ2 H2 => tb { D with nx := N, ct := N, bk := D.nx } σ2 H2)
theorem tFor_k (wi : TI) (g : TG) (tb : TS) : tFor wi g tb = fun D σ H => wi σ H fun J H1 => kFor J g tb D σ H1 := rfl
theorem kFor.it {J : It} {n : Nat} {G : Hp → Prop} {Y : Nat → Hp → V → Hp → Prop} (w : Walk J n G Y) {g : TG} {tb : TS} {D : Ends} {σ : L2.St} {H : Hp} (Pv : Nat → L2.St → Hp → Prop) (h0 : Pv 0 σ H) (hG : ∀ i σ H, i ≤ n → Pv i σ H → G H)
    (hs : ∀ i x σ H H', i < n → Pv i σ H → Y i H x H' → g x σ H' fun σ2 H2 => tb { D with nx := Pv (i + 1), ct := Pv (i + 1), bk := D.nx } σ2 H2) (hd : ∀ σ H, Pv n σ H → D.nx σ H) : kFor J g tb D σ H := for_it w Pv h0 hG hs hd
theorem Same.tup {K : PySem.W.Frag} {H H' : Hp} {a : Addr} {xs : List V} (e : Same H H') (h : SqT K H a xs) : SqT K H' a xs := by
  rcases h with (h | ⟨o, h⟩) | h
  · exact .inl (.inl (e _ _ h))
  · exact .inl (.inr ⟨o, e _ _ h⟩)
  · exact .inr h
/-! ### a new instance -/
def kMake (C : Addr) (sp : Sp) (E : XK) (Q : VK) : List V → Hp → Prop := fun vs H1 => ∀ x dx, H1 x = none → H1 dx = none → dx ≠ x → sp (.ref x :: vs) (upd (upd H1 dx (.own x)) x (.ins C dx [])) (fun v H2 => v = .non ∧ Q (.ref x) H2) E
theorem kMake.mk {C : Addr} {sp : Sp} {E : XK} {Q : VK} {vs : List V} {H : Hp} (k : ∀ x dx H1, Same H H1 → H x = none → H1 x = some (.ins C dx []) → (∀ o, Same H (upd H1 x o)) → sp (.ref x :: vs) H1 (fun v H2 => v = .non ∧ Q (.ref x) H2) E) : kMake C sp E Q vs H := fun x dx nx nd ne => by
  have s : ∀ o, Same H (upd (upd H dx (.own x)) x o) := fun o b u e => by rw [upd_ne (ne_of_none e nx), upd_ne (ne_of_none e nd)]; exact e
  exact k x dx _ (s _) nx upd_same fun o => by rw [upd_upd]; exact s o
theorem tMakeR_k (C : Addr) (sp : Sp) (E : XK) (t : TA) : tMakeR C sp E t = fun σ H Q => t σ H (kMake C sp E Q) := rfl
theorem tDNewK_k : tDNewK = fun _ H Q => kN (.dK []) Q H := rfl
/-- a list is changed by a store -/
def kPutS (l : Addr) (o : HO) (Q : Hp → Prop) : Hp → Prop := fun H => Q (upd H l o)
theorem kPutS.mk {l : Addr} {o : HO} {Q : Hp → Prop} {H : Hp} (k : ∀ H', Put H H' l o → Q H') : kPutS l o Q H := k _ ⟨upd_same, fun b n => upd_ne n⟩
theorem rSetL_k : rSetL = fun o i v H Q => ∃ p xs k j, o = .ref p ∧ i = .int k ∧ H p = some (.lst xs) ∧ ixN xs.length k = some j ∧ kPutS p (.lst (xs.set j v)) Q H := rfl
def kMakeG (C : Addr) (sp : Sp) (gV : List V → List V → List V) (E : XK) (Q : VK) (vs zs : List V) : Hp → Prop := fun H2 => ∀ x dx, H2 x = none → H2 dx = none → dx ≠ x → sp (gV (.ref x :: vs) zs) (upd (upd H2 dx (.own x)) x (.ins C dx [])) (fun v H3 => v = .non ∧ Q (.ref x) H3) E
theorem kMakeG.mk {C : Addr} {sp : Sp} {gV : List V → List V → List V} {E : XK} {Q : VK} {vs zs us : List V} {H : Hp} (e : ∀ x, gV (.ref x :: vs) zs = .ref x :: us) (k : kMake C sp E Q us H) : kMakeG C sp gV E Q vs zs H := fun x dx nx nd ne => by
  rw [e x]
  exact k x dx nx nd ne
theorem tMakeK_k (C : Addr) (n m : Nat) (sp : Sp) (gV : List V → List V → List V) (E : XK) (t tk : TA) : tMakeK C n m sp gV E t tk = fun σ H Q => t σ H fun vs H1 => tk σ H1 fun zs H2 => vs.length = n ∧ zs.length = m ∧ kMakeG C sp gV E Q vs zs H2 := rfl
theorem cx_K {CX : CXT} {P : Program} {w : World} {K : PySem.W.Frag} {mg : Str → Option Value} {base : Heap} {N : List Str} {q : Str} {sc : Scope} {f : Addr} {cdv : Value} {A : Around} {outer : List Env} {s : Shared} {H : Hp} {E : XK} : (cxOf CX P w K mg base N q sc f cdv A outer s H E).K = K := rfl
theorem nox_K {X : Cx} : X.nox.K = X.K := rfl
end Ow
end
section
set_option maxHeartbeats 4000000
/-! o[i] and o[i] = v by an own def; static methods called off a class. -/
namespace Ow
open PySem PySem.Spec PyProof.Rows L2 StX
section
variable {X : Cx} {CX : CXT} {n : Nat} {C g : Addr} {sp : Sp} {E : XK}
def rGetO (C : Addr) (sp : Sp) (E : XK) : R2 := fun x y H Q => ∃ a, x = .ref a ∧ InsAt H a C ∧ sp [x, y] H Q E
theorem pe_subO {o i : Expr} {to ti : TE} {pos : Pos} (hs : PySem.W.findIn X.K (.ref C) "__getitem__" = some (some (.ref g))) (hf : PySem.W.isFn X.K (.ref g) = true) (hfn : PySem.W.fnIn X.K g = true)
    (F : FnR X.prog X.w X.K X.mg X.base CX n g sp) (hr : Room (n + 1) X.A) (hx : Passes CX X E) (ha : PE X o to) (hb : PE X i ti)
    (hsl : ∀ (x : Addr) (u : Value), subscripted i true (.ref x) u = runValue (.builtin "lifetime.subscript" ⟨[.ref x, u], []⟩) := by intro _ _; with_unfolding_all rfl) : PE X (.Subscript o i pos) (tOp (rGetO C sp E) to ti) := by
  refine ⟨fun pins s σ H Q I h => ?_⟩
  refine Subscript_ (binT ha hb I h fun v u s2 x y H2 I2 rx ry q => ?_)
  obtain ⟨a, rfl, hi, q⟩ := q
  obtain rfl : v = Value.ref a := rx
  obtain ⟨ox, od, J⟩ := inst_of I2 hi
  obtain ⟨m, hF⟩ := I2.fr
  refine PySem.W.sub_K hF I2.ok.mod.kin J hs hfn hf ?_ (hsl a u)
  exact wpAny_call (run_fnRS (us := [.ref a, u]) (vs := [.ref a, y]) F hr.in1 rfl hx I2 (.cons rfl (.cons ry .nil)) q)
def rSetO (C : Addr) (sp : Sp) (E : XK) : V → V → V → Hp → (Hp → Prop) → Prop := fun o i v H Q => ∃ a, o = .ref a ∧ InsAt H a C ∧ sp [o, i, v] H (fun _ H' => Q H') E
theorem set_own (hq : PySem.W.noSeq X.K C = true) (hs : PySem.W.findIn X.K (.ref C) "__setitem__" = some (some (.ref g))) (hf : PySem.W.isFn X.K (.ref g) = true)
    (F : FnR X.prog X.w X.K X.mg X.base CX n g sp) (hr : Room n X.A) (hx : Passes CX X E) : PSet X (rSetO C sp E) := by
  intro pins s σ H o i v ov iv u Q I ro ri rv h
  obtain ⟨a, rfl, ha, q⟩ := h
  cases (show ov = Value.ref a from ro)
  obtain ⟨ox, od, J⟩ := inst_of I ha
  obtain ⟨m, hF⟩ := I.fr
  refine PySem.W.ksp_setItem hF I.ok.mod.kin J hq hs hf ?_
  refine wpAny_mono (wpAny_call (run_fnR (us := [.ref a, iv, u]) (vs := [.ref a, i, v]) F hr hx I (.cons rfl (.cons ri (.cons rv .nil))) q)) (fun w s' z => ?_) fun _ _ x => x
  obtain ⟨z', H', I', rz, qz⟩ := z
  exact ⟨H', I', qz⟩
/-- C.m is a static method: its record at p, its def at g -/
structure SMet (K : PySem.W.Frag) (C : Addr) (mc : Value) (m : Str) (p g : Addr) : Prop where
  at_ : PySem.W.findCls K (.ref C) mc m = some (.get (.builtin "staticmethod.__get__") (.ref p) .none (.ref C))
  rc : ∃ rest, PySem.W.recIn K p "staticmethod" = some (.ref g :: rest)
  kp : PySem.W.keepIn K (.ref g) = true
end
section
variable {X : Cx} {pins : List (Addr × Obj)} {σ : L2.St} {H : Hp} {s : Shared} {C p g : Addr} {mc : Value} {m : Str} {A : Around} {E : Value → Shared → Prop}
theorem getsm_ok {b : Bool} {Q : Value → Shared → Prop} (I : Inv X pins σ H s) (r : ClX.CRead X.K C mc) (k : SMet X.K C mc m p g)
    (h : ∀ s', Inv X pins σ H s' → Q (.ref g) s') : wpAny (model X.prog X.w) A (getAttr (.ref C) m b) Q E s := by
  obtain ⟨rest, hp⟩ := k.rc
  refine PySem.W.cls_bind I.kIn r.rd k.at_ ?_
  refine wpAny_call (PySem.W.sm_get (s := { s with toks := s.toks + 1 }) I.kIn hp (PySem.W.handed_on rfl ?_))
  exact h _ (I.tok _)
theorem getmethsm_ok {pl : Sem Bool} {Q : Value × List Value → Shared → Prop} (I : Inv X pins σ H s) (r : ClX.CRead X.K C mc) (k : SMet X.K C mc m p g)
    (h : ∀ s', Inv X pins σ H s' → Q (.ref g, []) s') : wpAny (model X.prog X.w) A (getMethod (.ref C) m pl) Q E s :=
  PySem.W.method_cls I.kIn r.ga (getsm_ok I r k h)
end
section
variable {X : Cx} {CX : CXT} {k : Nat} {C p g : Addr} {mc : Value} {sp : Sp} {E : XK} {o e : Expr} {es : List Expr} {m : Str} {pos apos : Pos} {ta : TE} {t : TA} {pl : Sem Bool}
def tSMeth (C : Addr) (sp : Sp) (E : XK) (ta : TE) (t : TA) : TE := fun σ H Q => ta σ H fun x H1 => x = .ref C ∧ t σ H1 fun vs H2 => sp vs H2 Q E
theorem pe_smeth (he : PE X o ta) (r : ClX.CRead X.K C mc) (c : SMet X.K C mc m p g) (F : FnR X.prog X.w X.K X.mg X.base CX k g sp) (hr : Room k X.A) (hx : Passes CX X E) (ha : PA X (e :: es) t)
    (hst : starEach (e :: es) X.env = (false, eval e X.env) :: starEach es X.env := by rfl) (hpl : (backTo pos (starEach es X.env)).any (·.1) = false := by rfl)
    (ht : eval (.Call (.Attribute o m apos) (e :: es) [] pos) X.env = (do
      let ov ← eval o X.env
      standAt apos.atName
      let (f, first) ← holding [ov] (getMethod ov m pl)
      callWith pos f first (backTo pos (starEach (e :: es) X.env)) (backToKw pos (keywordEach [] X.env))) := by rfl) :
    PE X (.Call (.Attribute o m apos) (e :: es) [] pos) (tSMeth C sp E ta t) := by
  refine ⟨fun pins s σ H Q I h => ?_⟩
  refine PySem.W.methodCall_KW (pl := pl) (thn (he.run pins s σ H _ I h) fun u s1 ⟨x, H1, I1, rx, ex, q⟩ => ?_) ht
  subst ex
  obtain rfl : u = Value.ref C := rx
  refine getmethsm_ok I1 r c fun s2 I2 => ?_
  refine PySem.W.callWith_K (h₀ := X.base) I.ok.mod.kin c.kp (thn (ha.run pos pins s2 σ H1 _ I2 q) fun us s3 ⟨vs, H2, I3, rv, q2⟩ => ⟨I3.kIn, ?_⟩) hst hpl
  refine wpAny_mono (wpAny_call (run_fnR F hr hx I3 rv q2)) (fun w s' z => z) fun _ _ x => x
/-- by keywords alone -/
def tSMethK (C : Addr) (n : Nat) (sp : Sp) (gV : List V → List V → List V) (E : XK) (ta : TE) (tk : TA) : TE := fun σ H Q => ta σ H fun x H1 => x = .ref C ∧ tk σ H1 fun zs H2 => zs.length = n ∧ sp (gV [] zs) H2 Q E
theorem pe_smethK {kws : List Keyword} {fd : FuncData} {ps ks : List Str} {tk : TA} {gl : List Value → List Value → List Value} {gV : List V → List V → List V} (he : PE X o ta) (r : ClX.CRead X.K C mc) (c : SMet X.K C mc m p g)
    (F : FnOk X.prog X.w X.K X.mg X.base CX k g fd ps sp) (hr : Room k X.A) (hb : KBn X.K fd ps 0 ks gl gV) (hx : Passes CX X E) (hkw : PK X kws tk)
    (hall : (backToKw pos (keywordEach kws X.env)).all (·.1.isSome) = true := by rfl) (hks : (backToKw pos (keywordEach kws X.env)).filterMap (·.1) = ks := by rfl)
    (hpl : ((backTo pos (starEach [] X.env)).any (·.1) || (backToKw pos (keywordEach kws X.env)).any (·.1.isNone)) = false := by rfl)
    (ht : eval (.Call (.Attribute o m apos) [] kws pos) X.env = (do
      let ov ← eval o X.env
      standAt apos.atName
      let (f, first) ← holding [ov] (getMethod ov m pl)
      callWith pos f first (backTo pos (starEach [] X.env)) (backToKw pos (keywordEach kws X.env))) := by rfl) :
    PE X (.Call (.Attribute o m apos) [] kws pos) (tSMethK C ks.length sp gV E ta tk) := by
  refine ⟨fun pins s σ H Q I h => ?_⟩
  refine PySem.W.methodCall_KW (pl := pl) (thn (he.run pins s σ H _ I h) fun u s1 ⟨x, H1, I1, rx, ex, q⟩ => ?_) ht
  subst ex
  obtain rfl : u = Value.ref C := rx
  refine getmethsm_ok I1 r c fun s2 I2 => ?_
  refine PySem.W.callWith_KW0 (h₀ := X.base) I.ok.mod.kin c.kp hall ?_ hpl
  refine thn (hkw.run pos pins s2 σ H1 _ I2 q) fun ws s3 ⟨zs, H3, I3, rz, l2, q2⟩ => ⟨I3.kIn, ?_⟩
  rw [hks]
  refine wpAny_call (codeAny_mono (F.run X.A X.stack s3 H3 ⟨[], ks.zip ws⟩ (gl [] ws) (gV [] zs) Q E hr I3.env0 (hb.to s3 [] ws I3.kIn rfl (rz.length.symm.trans l2)) (hb.rel .nil rz) q2) fun r s' hq => ?_)
  cases r with
  | error e => exact hx pins σ H3 s3 e s' I3 hq
  | ok fl =>
    cases fl with
    | ret u => exact I3.after hq
    | next => exact False.elim hq
    | brk => exact False.elim hq
    | cont => exact False.elim hq
end
end Ow
end
section
set_option maxHeartbeats 4000000
/-! enumerate(tuple). -/
namespace Ow
open PySem PySem.Spec PyProof.Rows L2 StX
/-- the tuple at a as it stands at each turn, each item in a new pair -/
def IteT (K : PySem.W.Frag) (a : Addr) : It :=
  ⟨fun i H => ∃ (xs : List V) (x : V), SqT K H a xs ∧ xs[i]? = some x, fun i H v H' => ∃ T x, v = .ref T ∧ H T = none ∧ H' = upd H T (.tup [.int (i : Nat), x]) ∧ ∀ xs, SqT K H a xs → xs[i]? = some x, fun i H => ∃ xs : List V, SqT K H a xs ∧ xs.length ≤ i⟩
theorem cls_ne {h : Heap} {a b : Addr} {oa ob : Obj} {ca cb : String} (ha : h.get? a = some oa) (hb : h.get? b = some ob) (ea : oa.cls = .type ca) (eb : ob.cls = .type cb) (d : ca ≠ cb) : a ≠ b := fun e => by
  subst e
  rw [ha] at hb
  cases hb
  rw [ea] at eb
  exact d (Value.type.inj eb)
theorem enum_doneT {prog : Program} {w : World} {A : Around} {E : Value → Shared → Prop} {s : Shared} {e it a : Addr} {i : Nat} {ys : Array Value} {old : Value} {Q : Option Value → Shared → Prop} (hh : A.in1.handled = none)
    (he : IsEnum s.heap e it i old) (ht : s.heap.IsTupleIter it a i) (hy : s.heap.IsTuple a ys) (hx : ys[i]? = none) (k : ∀ h', Heap.ExtBut it s.heap h' → Q none { s with heap := h' }) : wpAny (model prog w) A (pyNext (.ref e)) Q E s := by
  have ty : s.TypeIs (.ref e) "enumerate" := ⟨_, he, rfl⟩
  unfold pyNext
  refine wpAny_bind (wpAny_attempt (wpAny_callSpecial?_slot (name := Str.ofString "__next__") ty F.slot_enumerate_next (wpAny_call_entry F.slot_enumerate_next ty F.entry_enumerate_next ?_ (F.args_enumerate_next_1 _))))
  show wpAny _ _ (field (.ref e) 2 >>= _) _ _ _
  refine wpAny_bind (wpAny_field he rfl (x := .ref it) rfl (wpAny_bind (wpAny_nextOf_tuple_end hh ht hy hx fun h' x h1 h2 => ?_)))
  obtain ⟨o, ho, hc⟩ := h2
  exact wpAny_bind (wpAny_isInstance (T := "StopIteration") (b := true) ⟨o, ho, hc⟩ isSubtype_stop (wpAny_pure (k _ h1)))
theorem turn_enumT {P : Program} {w : World} {K : PySem.W.Frag} {elts : List Expr} {kk : Nat} {tpos : Pos} (a e it : Addr) :
    Turn P w K (.Tuple elts kk tpos) (IteT K a) [e, it] e (fun i h => (∃ old, IsEnum h e it ((i : Nat) : Int) old) ∧ h.IsTupleIter it a i ∧ e ≠ it) where
  mem := by simp
  obj := fun i h st b hb => by
    obtain ⟨⟨old, he⟩, ⟨o, ho, hc, hd⟩, _⟩ := st
    have e' : b = e ∨ b = it := by simpa using hb
    rcases e' with z | z
    · rw [z]; exact ⟨_, he, fun v q => nomatch q⟩
    · rw [z]; exact ⟨o, ho, fun v q => by rw [hd] at q; cases q⟩
  keep := fun i h h' st k => let ⟨⟨old, he⟩, hi, hne⟩ := st; ⟨⟨old, k e (by simp) _ he⟩, hi.at fun o q => k it (by simp) o q, hne⟩
  item := by
    intro X hP hw hK hc i pins s σ H E I hf st hg
    subst hP hw hK
    obtain ⟨⟨old, he⟩, hit, hne⟩ := st
    obtain ⟨xs, x, hq, hx⟩ := hg
    obtain ⟨its, rv, p, hz⟩ := I.tuple hq
    obtain ⟨u, hu, ru⟩ := rv.get hx
    have hel : e < s.heap.objs.size := Heap.lt_size he
    have hil : it < s.heap.objs.size := by obtain ⟨_, q, _⟩ := hit; exact Heap.lt_size q
    have hai : a ≠ it := by
      obtain ⟨o1, h1, c1, _⟩ := p
      obtain ⟨o2, h2, c2, _⟩ := hit
      exact cls_ne h1 h2 c1 c2 (by decide)
    have hea : e ≠ a := by
      obtain ⟨o1, h1, c1, _⟩ := p
      exact cls_ne he h1 rfl c1 (by decide)
    have hlt : i < its.toArray.size := by
      have := rv.length
      have h3 : i < xs.length := by
        by_cases y : i < xs.length
        · exact y
        · rw [List.getElem?_eq_none (by omega)] at hx
          cases hx
      rw [List.size_toArray]
      omega
    refine wpAny_pyNext_enum_itemD (Draws.tuple (A := X.A.in1) (I.ok.hd hc) it a hai its.toArray) he ⟨hit, p⟩ hlt hne (by simp [hne, hea]) fun x2 h' tk hP ho hit2 hT hsz hk => ?_
    obtain ⟨hit', _⟩ := hit2
    have hxu : x2 = u := by
      have h5 : its[i]? = some x2 := by simpa using hP
      rw [hu] at h5
      exact (Option.some.inj h5).symm
    subst hxu
    refine ⟨_, rfl, wpAny_letOwnedTupleGo_enum (s := { s with heap := h', toks := tk + 1 }) ho fun h'' he' sb => ?_⟩
    have hT2 : h''.get? s.heap.objs.size = some { cls := .type "tuple", data := .seq #[.int i tk, x2] } := (sb.2 _ (Nat.ne_of_gt hel)).trans hT
    have new : ObjOk X.prog X.w (upd H s.heap.objs.size (.tup [.int (i : Nat), x])) h'' s.heap.objs.size (.tup [.int (i : Nat), x]) :=
      ⟨by show 2 ≤ sizeLine; decide, [.int i tk, x2], .cons ⟨_, rfl⟩ (.cons ru .nil), ⟨_, hT2, rfl, _, rfl⟩⟩
    have I1 : Inv X pins σ (upd H s.heap.objs.size (.tup [.int (i : Nat), x])) { s with heap := h'', toks := tk + 1 } :=
      I.turnedNew (ch := [e, it]) (fun b ob hb q => (sb.2 b (fun z => hb (by simp [z]))).trans (hk b ob (fun z => hb (by simp [z])) (fun z => hb (by simp [z])) q)) hf (Nat.le_refl _) new
    refine ⟨.ref s.heap.objs.size, _, I1, rfl, ⟨_, x, rfl, I.hok.fresh (Nat.le_refl _), rfl, fun ys hy => by rw [I.tuple_inj hy hq]; exact hx⟩, ⟨⟨x2, ?_⟩, hit'.at fun o q => (sb.2 it (Ne.symm hne)).trans q, hne⟩, fun b hb => ?_⟩
    · have e1 : ((i + 1 : Nat) : Int) = (i : Int) + 1 := by omega
      rw [e1]; exact he'
    · have hb' : b < s.heap.objs.size := by
        have e' : b = e ∨ b = it := by simpa using hb
        rcases e' with z | z
        · rw [z]; exact hel
        · rw [z]; exact hil
      rw [upd_ne (Nat.ne_of_lt hb')]
      exact (hf b hb).1
  done := by
    intro X hP hw hK hc i pins s σ H E I hf st hg
    subst hP hw hK
    obtain ⟨⟨old, he⟩, hit, hne⟩ := st
    obtain ⟨xs, hq, hx⟩ := hg
    obtain ⟨its, rv, p, hz⟩ := I.tuple hq
    obtain ⟨f0, f1, f2, f3, f4, f5⟩ := hf it (by simp)
    have hl := rv.length
    exact enum_doneT (I.ok.hd hc) he hit p (by simp; omega) fun h' eb => ⟨rfl, I.turned (t' := s.toks) (fun b o hb q => eb b o hb q) f0 f1 f3 f4 f5⟩
  self := fun A i s Q E st h => let ⟨⟨_, he⟩, _⟩ := st; wpAny_pyIter_enum he h
theorem meets_enumT (a : Addr) (ys : Array Value) :
    Meets (Builtin.«enumerate.__new__» ⟨[.type "enumerate", .ref a], []⟩) (fun _ R s => s.heap.IsTuple a ys ∧
      R (.ok (.ret (.ref (s.heap.push { cls := .type "tuple_iterator", data := .fields #[.ref a, .int 0 0] }).objs.size)))
        { s with heap := (s.heap.push { cls := .type "tuple_iterator", data := .fields #[.ref a, .int 0 0] }).push { cls := .type "enumerate", data := .fields #[.none, .bool false, .ref s.heap.objs.size, rawInt 0, .none, .none] } }) :=
  .of_wp fun prog w A R s h => by
    obtain ⟨hp, g, d, tk, os⟩ := s
    obtain ⟨hl, h⟩ := h
    have hsub := sub_enumerate
    have q1 : ∀ {A' : Around} {E : Value → Shared → Prop} {Q : Value → Shared → Prop}, Q (.ref hp.objs.size) ⟨hp.push { cls := .type "tuple_iterator", data := .fields #[.ref a, .int 0 0] }, g, d, tk, os⟩ → wpAny (model prog w) A' (pyIter (.ref a)) Q E ⟨hp, g, d, tk, os⟩ :=
      fun q => wpAny_pyIter_tuple (s := ⟨hp, g, d, tk, os⟩) hl q
    wp_walk using q1
    refine wpAny_stack_any fun st => wpAny_pure ?_
    split
    · rename_i c _ _ _ _ _
      cases (c == Value.type "enumerate")
      · wp_walk using q1
        exact ⟨_, rfl, h⟩
      · wp_walk using q1
        exact ⟨_, rfl, h⟩
    · wp_walk using q1
      exact ⟨_, rfl, h⟩
theorem call_enumT {prog : Program} {w : World} {A : Around} {E : Value → Shared → Prop} {s : Shared} {a : Addr} {ys : Array Value} {Q : Value → Shared → Prop} (hy : s.heap.IsTuple a ys)
    (k : ∀ h', IsEnum h' (s.heap.objs.size + 1) s.heap.objs.size 0 .none → h'.IsTupleIter s.heap.objs.size a 0 → (∀ b o, s.heap.get? b = some o → h'.get? b = some o) → Q (.ref (s.heap.objs.size + 1)) { s with heap := h' }) :
    wpAny (model prog w) A (call (.type "enumerate") [.ref a]) Q E s := by
  refine callType_new F.called_enumerate (by decide) (F.typeCall_enumerate_1 _) (F.newCall_enumerate_1 _) (fun obj => F.args_object_init_2 obj _) F.entry_enumerate_new (meets_enumT a ys) ⟨hy, ?_⟩
  have hz : (s.heap.push { cls := .type "tuple_iterator", data := .fields #[.ref a, .int 0 0] }).objs.size = s.heap.objs.size + 1 := Heap.size_push ..
  have e1 : ((s.heap.push { cls := .type "tuple_iterator", data := .fields #[.ref a, .int 0 0] }).push { cls := .type "enumerate", data := .fields #[.none, .bool false, .ref s.heap.objs.size, rawInt 0, .none, .none] }).get? (s.heap.objs.size + 1) = some { cls := .type "enumerate", data := .fields #[.none, .bool false, .ref s.heap.objs.size, rawInt 0, .none, .none] } := by
    rw [← hz]
    exact Heap.get?_push_size _ rfl
  have e2 : ((s.heap.push { cls := .type "tuple_iterator", data := .fields #[.ref a, .int 0 0] }).push { cls := .type "enumerate", data := .fields #[.none, .bool false, .ref s.heap.objs.size, rawInt 0, .none, .none] }).get? s.heap.objs.size = some { cls := .type "tuple_iterator", data := .fields #[.ref a, .int 0 0] } := Heap.get?_push_of_some _ (Heap.get?_push_size _ rfl)
  show _ ∧ _
  rw [hz]
  exact ⟨⟨_, e1, rfl⟩, k _ e1 ⟨_, e2, rfl, rfl⟩ fun b o e => Heap.get?_push_of_some _ (Heap.get?_push_of_some _ e)⟩
def iEnumT (K : PySem.W.Frag) (ta : TA) : TI := fun σ H R => ta σ H fun vs H1 => ∃ a xs, vs = [.ref a] ∧ ((SqL K H1 a xs ∧ R (Ite K a) H1) ∨ (SqT K H1 a xs ∧ R (IteT K a) H1))
theorem pi_enumT {X : Cx} {e : Expr} {ta : TA} {p pos tpos : Pos} {elts : List Expr} {kk : Nat} (hg : Gl X "enumerate") (hm : X.mg "enumerate" = none) (ha : PA X [e] ta) (hs : starEach [e] X.env = [(false, eval e X.env)] := by rfl) :
    PI X (.Tuple elts kk tpos) (.Call (.Name "enumerate" p) [e] [] pos) (iEnumT X.K ta) := by
  refine ⟨fun pins s σ H R I h => ?_⟩
  refine Call_ (ld_blt I hg hm boot_enumerate (PyProof.Rows.callWith_type1 (thn (ha.run pos pins s σ H _ I h) fun us s1 ⟨vs, H1, I1, r1, q1⟩ => ?_) hs rfl))
  obtain ⟨a, xs, ex, q⟩ := q1
  subst ex
  obtain ⟨u, rfl, ru⟩ := vals1 r1
  obtain rfl : u = Value.ref a := ru
  have fp : ∀ b ∈ [s1.heap.objs.size + 1, s1.heap.objs.size], FpOk X pins H1 b := fun b hb => by
    have hle : s1.heap.objs.size ≤ b := by
      simp only [List.mem_cons, List.not_mem_nil, or_false] at hb
      omega
    exact I1.fpOk hle (I1.hok.fresh hle)
  rcases q with ⟨hq, q⟩ | ⟨hq, q⟩
  · obtain ⟨its, rv, p', hz⟩ := I1.list hq
    refine call_enumerate_list p'.isList fun h' he hit hsz hk => wpAny_pyIter_enum he ?_
    exact ⟨s1.heap.objs.size + 1, _, _, _, H1, rfl, I1.kept (t' := s1.toks) hk, turn_enum a (s1.heap.objs.size + 1) s1.heap.objs.size, ⟨⟨.none, he⟩, hit, Nat.succ_ne_self _⟩, fp, q⟩
  · obtain ⟨its, rv, p', hz⟩ := I1.tuple hq
    refine call_enumT p' fun h' he hit hk => wpAny_pyIter_enum he ?_
    exact ⟨s1.heap.objs.size + 1, _, _, _, H1, rfl, I1.kept (t' := s1.toks) hk, turn_enumT a (s1.heap.objs.size + 1) s1.heap.objs.size, ⟨⟨.none, he⟩, hit, Nat.succ_ne_self _⟩, fp, q⟩
theorem walk_enumT {K : PySem.W.Frag} {a : Addr} {xs : List V} : Walk (IteT K a) xs.length (fun H => SqT K H a xs) (YPair (fun i => some (.int (i : Nat))) (fun i => xs[i]?)) := by
  refine ⟨fun i _ hi q => ⟨xs, xs[i], q, by simp [hi]⟩, fun _ q => ⟨xs, q, Nat.le_refl _⟩, fun i H v H' _ q y => ?_⟩
  obtain ⟨T, x, h1, h2, h3, h4⟩ := y
  exact ⟨T, .int (i : Nat), x, h1, h2, h3, rfl, h4 xs q⟩
/-- text * int -/
def rMulS : R2 := fun x y H Q => ∃ z n, x = .str z ∧ y = .int n ∧ MulOk z n ∧ Q (.str (Txt.mul z n)) H
theorem op_mulS {X : Cx} : OpR X (binaryOp .Mult) rMulS := by
  intro pins s σ H x y v u Q I rx ry h
  obtain ⟨z, n, rfl, rfl, ok, q⟩ := h
  obtain ⟨t, rfl⟩ := rx
  obtain ⟨t', rfl⟩ := ry
  exact SB.mul ok fun t2 k => ⟨.str (Txt.mul z n), H, I.tok _, ⟨t2, rfl⟩, q⟩
theorem fold_one (d : Nat) : ∀ (m : Nat) (acc : List Nat), (List.replicate m #[d]).foldl (fun a b => a ++ b) acc.toArray = (acc ++ List.replicate m d).toArray
  | 0, acc => by simp
  | m + 1, acc => by
    rw [List.replicate_succ, List.foldl_cons, List.append_toArray, fold_one d m (acc ++ [d]), List.replicate_succ, List.append_assoc]
    rfl
theorem mul_one (d : Nat) {n : Int} (h : 1 ≤ n) : Txt.mul (SX.S [d]) n = SX.S (List.replicate n.toNat d) := by
  unfold Txt.mul
  rw [if_neg (by omega)]
  by_cases e : n = 1
  · subst e
    rfl
  · rw [if_neg (by
      rw [SX.S_len]
      simp [e])]
    have := fold_one d n.toNat []
    exact congrArg Str.mk this
theorem mulOk_one (d : Nat) {n : Int} (h : 1 ≤ n) (h2 : n ≤ 100000) : MulOk (SX.S [d]) n := by
  refine ⟨?_, fun _ _ => ?_, fun _ _ => ?_⟩
  · rw [Bool.or_eq_false_iff]
    exact ⟨decide_eq_false (by omega), decide_eq_false (by omega)⟩
  · rw [SX.S_len]
    have : (1 : Int) ≤ (2 ^ 63 - 1) / n := Int.le_ediv_of_mul_le (by omega) (by omega)
    intro z
    have z : (1 : Int) > (2 ^ 63 - 1) / n := z
    omega
  · rw [SX.S_len]
    show Builtin.Str.tooLong (1 * n.toNat) = false
    exact decide_eq_false (Nat.not_lt.mpr (Nat.le_trans (show 1 * n.toNat ≤ 100000 by omega) (by decide +kernel)))
theorem vals_rev {vs : List V} {us : List Value} (r : Vals vs us) : Vals vs.reverse us.reverse := by
  induction r with
  | nil => exact .nil
  | cons h t ih =>
    rw [List.reverse_cons, List.reverse_cons]
    exact ih.append (.cons h .nil)
/-- a def's promise by binds, with the def itself (for calls by keywords) -/
theorem FnT.okF {P : Program} {w : World} {K : PySem.W.Frag} {mg : Str → Option Value} {base : Heap} {x qual : Str} {st : Stmt} {dvs : List V} {f : Addr} {N ps : List Str} {k : Nat} {sp : Sp} (F : FnT K x qual st dvs f) (S : FnScope N ps (defScope st)) (len : ∀ vs H Q E, sp vs H Q E → vs.length = ps.length)
    (hbody : ∀ (cdv : Value) (A : Around) (outer : List Env) (s : Shared) (H : Hp) (vs : List V) (Q : VK) (E : XK), Room k (A.deeper (envOfC qual (defScope st) s.heap.objs.size f cdv)) → sp vs H Q E →
      ∃ t, PSs (cxOf CX0 P w K mg base N qual (defScope st) f cdv A outer s H E).nox (defBody st) t ∧ t { nx := fun _ H' => Q .non H', rt := Q } (L2.start N vs) H) :
    ∃ fd, FnOk P w K mg base CX0 (k + 1) f fd ps sp ∧ FunD K x qual (defArgs st) (defBody st) (defScope st) dvs [] f fd := by
  obtain ⟨fd, F⟩ := F
  exact ⟨fd, F.ok S len fun cdv A outer s H vs Q E hr hsp => by
    obtain ⟨t, h, q⟩ := hbody cdv A outer s H vs Q E hr hsp
    exact ⟨t, h.nox, q⟩, F⟩
end Ow
end
section
namespace Ow
open PySem PySem.Spec PyProof.Rows L2
/-- a static method's facts, of pieces that k_is finds -/
theorem smet_mk {K : PySem.W.Frag} {C p g : Addr} {m : Str} {ta : Value} {rest : List Value}
    (h1 : PySem.W.findIn K (.ref C) m = some (some (.ref p)))
    (h2 : PySem.W.findIn K (.type "type") m = some none)
    (h3 : PySem.W.typeIn K (.ref p) = some ta)
    (h4 : PySem.W.bareKinds.contains ta = false)
    (h5 : PySem.W.specialIn K (.ref p) "__get__" = some (some (.builtin "staticmethod.__get__")))
    (h6 : PySem.W.recIn K p "staticmethod" = some (.ref g :: rest)) (h7 : PySem.W.keepIn K (.ref g) = true) :
    SMet K C (.type "type") m p g := by
  refine ⟨?_, ⟨_, h6⟩, h7⟩
  unfold PySem.W.findCls
  simp only [h2, h1, h3, h4, h5, Option.bind, Builtin.heldUnderItsOwnName]
  rfl
end Ow
end
section
namespace Ow
open PySem PySem.Spec PyProof.Rows L2
/-- a suite that names what was caught: slot i holds it, and is empty behind the suite -/
def asTS (i : Nat) (ts : Addr → Value → Option Addr → TS) : Addr → Value → Option Addr → TS := fun a cls d D σ H =>
  ts a cls d { nx := fun σ' H' => D.nx (σ'.set i none) H', rt := D.rt, bk := fun σ' H' => D.bk (σ'.set i none) H', ct := fun σ' H' => D.ct (σ'.set i none) H' } (σ.set i (some (.ref a))) H
/-- clauses of a try, each with a class by its name, with or without a name for what is caught -/
inductive HdsM (X : Cx) : List ExceptHandler → List (Value × (Addr → Value → Option Addr → TS)) → Prop
  | nil : HdsM X [] []
  | plain {x : Str} {c : Value} {ts : Addr → Value → Option Addr → TS} {b₀ : Stmt} {suite : List Stmt} {np pos' : Pos} {hds : List ExceptHandler} {l : List (Value × (Addr → Value → Option Addr → TS))} (hc : Names X x c)
      (hsu : ∀ (a : Addr) (oe : Obj) (cls : Value) (d : Option Addr) (pn : List (Addr × Obj)), Zc cls d oe → (∃ vs, oe.data = .fields vs) → PSs (X.suite a ((a, oe) :: pn)) (b₀ :: suite) (ts a cls d)) (r : HdsM X hds l) :
      HdsM X (.ExceptHandler (some (.Name x np)) none (b₀ :: suite) pos' :: hds) ((c, ts) :: l)
  | named {x n : Str} {i : Nat} {c : Value} {ts : Addr → Value → Option Addr → TS} {b₀ : Stmt} {suite : List Stmt} {np pos' : Pos} {hds : List ExceptHandler} {l : List (Value × (Addr → Value → Option Addr → TS))} (hi : X.N[i]? = some n) (hln : X.env.kindOf n = some .local) (hc : Names X x c)
      (hsu : ∀ (a : Addr) (oe : Obj) (cls : Value) (d : Option Addr) (pn : List (Addr × Obj)), Zc cls d oe → (∃ vs, oe.data = .fields vs) → PSs (X.suite a ((a, oe) :: pn)) (b₀ :: suite) (ts a cls d)) (r : HdsM X hds l) :
      HdsM X (.ExceptHandler (some (.Name x np)) (some n) (b₀ :: suite) pos' :: hds) ((c, asTS i ts) :: l)
set_option maxHeartbeats 4000000
/-- try with any row of clauses, some with `as` -/
theorem ps_try_mix {X : Cx} {body : List Stmt} {h₀ : ExceptHandler} {hds : List ExceptHandler} {l : List (Value × (Addr → Value → Option Addr → TS))} {pos : Pos} {tb : WX → TS} {Wout : WX} (hs : X.stack = X.env :: X.outer) (hf : X.env.frame = some X.env.locals) (hN : X.N.Nodup) (tk : Takes X Wout)
    (hb : ∀ (W : WX) (pn : List (Addr × Obj)) (xe : Value → Shared → Prop), Takes (X.tr pn xe) W → PassesOwn (model X.prog X.w) X.A X.env xe → PSs (X.tr pn xe) body (tb W)) (hh : HdsM X (h₀ :: hds) l) :
    PS X (.Try body (h₀ :: hds) [] [] pos) (fun D σ H => tb (wMany X.K Wout D l) D σ H) := by
  refine ⟨fun pins s σ H D I h => ?_⟩
  have ok := I.ok
  have hfr : X.A.frames = some (X.env :: X.outer) := by rw [ok.frames, hs]
  refine wpAny_Try_except (wpAny_mono ((hb (wMany X.K Wout D l) (X.pn ++ pins) (fun e s₁ => wpAny (model X.prog X.w) X.A (noteFrame e X.env) (fun _ s₂ => wpAny (model X.prog X.w) X.A (setFlight e none) (fun _ s₃ => wpAny (model X.prog X.w) X.A (handleBy e X.env (h₀ :: hds)) (SP X pins D) X.xe s₃) X.xe s₂) X.xe s₁) ?_ PassesOwn.looking).run [] s σ H D (Inv.toTry I _) h) (fun f s1 hsp => ?_) fun e s1 he => he)
  · intro u s' xx
    obtain ⟨a, B, sI, pins', σ', H', cls, d, rfl, J', nb, up, sky, na, os, ag, w⟩ := xx
    have J := Inv.ofTry J' ok
    have sky' : Sky B (X.env :: X.outer) a (Zc cls d) X.env.locals s'.heap := by rw [← hs]; exact sky
    refine Sky.land Zc.steady hfr hf sky' fun h3 fl3 up3 => ?_
    have J3 := Inv.landed (s' := { heap := h3, gens := s'.gens, drawn := s'.drawn, toks := s'.toks, os := s'.os }) J nb fl3.left (Heap.UpToSlots.trans up up3) os ag
    obtain ⟨oe3, vs3, he3, hz3, hd3⟩ := HandSPX.FlyingZ.there fl3
    have nfr : ¬ a ∈ List.filterMap (fun x : Env => x.frame) (X.env :: X.outer) := fun hm => by
      obtain ⟨_, o', e', hnf⟩ := Heap.FunFrames.mem fl3.right.right.left hm
      have e2 := e'.symm.trans he3
      cases e2
      exact hnf _ hd3
    have nL : a ≠ X.env.locals := fun z => nfr (List.mem_filterMap.mpr ⟨X.env, List.mem_cons_self .., by rw [hf, z]⟩)
    have nF : ¬ a ∈ X.fs := fun hm => by
      obtain ⟨e, he, q⟩ := List.mem_filterMap.mp hm
      exact nfr (List.mem_filterMap.mpr ⟨e, List.mem_cons_of_mem _ he, q⟩)
    have S3 := Inv.suite J3 he3 hd3 na nL nF
    clear h hb
    have key : ∀ (hds' : List ExceptHandler) (l' : List (Value × (Addr → Value → Option Addr → TS))), HdsM X hds' l' → wMany X.K Wout D l' cls d σ' H' → wpAny (model X.prog X.w) X.A (handleBy (.ref a) X.env hds') (SP X pins D) X.xe { heap := h3, gens := s'.gens, drawn := s'.drawn, toks := s'.toks, os := s'.os } := by
      intro hds' l' hk
      have LT : W.Looks (model X.prog X.w) h3 (typeOf (Value.ref a)) cls := fun A Q E s k q => wpAny_typeOf_ref (k a oe3 he3) (by rw [hz3.left]; exact q)
      have test : ∀ {x : Str} {c : Value} {np : Pos} {Q : Value → Shared → Prop} {E : Value → Shared → Prop}, Names X x c → Q c { heap := h3, gens := s'.gens, drawn := s'.drawn, toks := s'.toks, os := s'.os } →
          wpAny (model X.prog X.w) (X.A.mark (some (.ref a))) (eval (.Name x np) X.env) Q E { heap := h3, gens := s'.gens, drawn := s'.drawn, toks := s'.toks, os := s'.os } := by
        intro x c np Q E hc q
        obtain ⟨hg, hdbg, hm | ⟨hm, hv, hnn⟩⟩ := hc
        · exact ld_glob (X := X.suite a _) S3 hg hm q hdbg
        · exact ld_blt (X := X.suite a _) S3 hg hm hv q hnn hdbg
      induction hk with
      | nil =>
        intro w
        refine wpAny_handleBy_nil ?_
        have fl := fl3
        obtain ⟨k1, k2, k3, oe, vs, T, oT, ts', he, hz, hd, h1, hr⟩ := fl3
        unfold PySem.passOn
        refine wpAny_bind (wpAny_field he hd h1 ?_)
        rw [if_neg (by simp)]
        refine wpAny_bind ?_
        rw [hf]
        exact HandSPX.setFlight_upZ fl fun h4 hh4 up4 => wpAny_throw (tk _ _ ⟨a, B, sI, pins, σ', H', cls, d, rfl, J, nb, (up.trans up3).trans up4, .inr (.inr (by rw [hs]; exact hh4)), na, os, ag, w⟩)
      | plain hc hsu r ih =>
        intro w
        obtain ⟨b, hb1, hyes, hno⟩ := w
        refine wpAny_handleBy_cons (codeAny_handlers_test (test hc (W.Looks.here (W.exm_one (Inv.kIn J3) LT hb1) ?_))) (fun q => by cases q)
        cases b with
        | false => exact ih (hno rfl)
        | true =>
          refine codeAny_handlers_suite (HandSPX.lands_againZ fl3 fun h4 fl4 up4 => ?_)
          have J4 := Inv.landed (s' := { heap := h4, gens := s'.gens, drawn := s'.drawn, toks := s'.toks, os := s'.os }) J nb fl4.left (Heap.UpToSlots.trans (Heap.UpToSlots.trans up up3) up4) os ag
          obtain ⟨oe4, vs4, he4, hz4, hd4⟩ := HandSPX.FlyingZ.there fl4
          have S4 := Inv.suite J4 he4 hd4 na nL nF
          refine wpAny_mono ((hsu a oe4 cls d (X.pn ++ pins) hz4 ⟨vs4, hd4⟩).run [] _ σ' H' D S4 (hyes rfl a na)) (fun f s6 hsp => ?_) fun _ _ z => False.elim z
          cases f with
          | next => obtain ⟨σ6, H6, S6, q6⟩ := hsp; exact ⟨σ6, H6, Inv.unsuite S6 ok, q6⟩
          | brk => obtain ⟨σ6, H6, S6, q6⟩ := hsp; exact ⟨σ6, H6, Inv.unsuite S6 ok, q6⟩
          | cont => obtain ⟨σ6, H6, S6, q6⟩ := hsp; exact ⟨σ6, H6, Inv.unsuite S6 ok, q6⟩
          | ret u => obtain ⟨v6, σ6, H6, S6, r6, q6⟩ := hsp; exact ⟨v6, σ6, H6, Inv.unsuite S6 ok, r6, q6⟩
      | named hi hln hc hsu r ih =>
        intro w
        obtain ⟨b, hb1, hyes, hno⟩ := w
        refine wpAny_handleBy_cons (codeAny_handlers_test (test hc (W.Looks.here (W.exm_one (Inv.kIn J3) LT hb1) ?_))) (fun q => by cases q)
        cases b with
        | false => exact ih (hno rfl)
        | true =>
          refine codeAny_handlers_suite_as (HandSPX.lands_againZ fl3 fun h4 fl4 up4 => ?_)
          have J4 := Inv.landed (s' := { heap := h4, gens := s'.gens, drawn := s'.drawn, toks := s'.toks, os := s'.os }) J nb fl4.left (Heap.UpToSlots.trans (Heap.UpToSlots.trans up up3) up4) os ag
          obtain ⟨oe4, vs4, he4, hz4, hd4⟩ := HandSPX.FlyingZ.there fl4
          have S4 := Inv.suite J4 he4 hd4 na nL nF
          refine store_ok (X := X.suite a ((a, oe4) :: (X.pn ++ pins))) (v := .ref a) S4 hN hi (Or.inl hln) rfl (fun s5 S5 => ?_) (Or.inr hln)
          refine wpAny_mono ((hsu a oe4 cls d (X.pn ++ pins) hz4 ⟨vs4, hd4⟩).run [] s5 _ H' _ S5 (hyes rfl a na)) (fun f s6 hsp => ?_) fun _ _ z => False.elim z
          cases f with
          | next => obtain ⟨σ6, H6, S6, q6⟩ := hsp; exact gone_ok (Inv.unsuite S6 ok) hN hi hln fun s7 J7 => ⟨_, H6, J7, q6⟩
          | brk => obtain ⟨σ6, H6, S6, q6⟩ := hsp; exact gone_ok (Inv.unsuite S6 ok) hN hi hln fun s7 J7 => ⟨_, H6, J7, q6⟩
          | cont => obtain ⟨σ6, H6, S6, q6⟩ := hsp; exact gone_ok (Inv.unsuite S6 ok) hN hi hln fun s7 J7 => ⟨_, H6, J7, q6⟩
          | ret u => obtain ⟨v6, σ6, H6, S6, r6, q6⟩ := hsp; exact gone_ok (Inv.unsuite S6 ok) hN hi hln fun s7 J7 => ⟨v6, _, H6, J7, r6, q6⟩
    exact key _ _ hh w
  · cases f with
    | next => obtain ⟨σ', H', J', q⟩ := hsp; exact wpAny_execs_nil ⟨σ', H', Inv.ofTry J' ok, q⟩
    | brk => obtain ⟨σ', H', J', q⟩ := hsp; exact ⟨σ', H', Inv.ofTry J' ok, q⟩
    | cont => obtain ⟨σ', H', J', q⟩ := hsp; exact ⟨σ', H', Inv.ofTry J' ok, q⟩
    | ret u => obtain ⟨v, σ', H', J', r, q⟩ := hsp; exact ⟨v, σ', H', Inv.ofTry J' ok, r, q⟩
end Ow
end
section
set_option maxHeartbeats 4000000
/-! The same for a law that shows dicts, too: the table of modules is told. -/
namespace Ow
open PySem PySem.Spec PyProof.Rows L2 StX
section
variable {P : Program} {w : World} {K : PySem.W.Frag} {mg mb : Str → Option Value} {k : Nat} {fa a c T : Addr} {sp : Sp} {s1 : Shared} {vs : List Value} {ns : List Int}
theorem end_fromTB (KX : K.In s1.heap) (hns : s1.heap.Ns mainGlobals mg) (hb : s1.heap.Ns builtinsNs mb) (hbb : ∀ x : Str, x ≠ "__name__" → mb x = bootBuiltins x) (hlim : s1.heap.NoLimit) (hsy : SysB s1.heap) (hg : s1.gens = #[]) (hr : Room k callerA)
    (eT : s1.heap.get? T = some tab0) (nT : K.lookup T = none) (cT : PySem.W.CodeHd s1.heap c T)
    (main : ∃ (m : Addr) (o : Obj), mg "__builtins__" = some (.ref m) ∧ m ≠ builtinsNs ∧ s1.heap.get? m = some o ∧ o.cls = .type "module" ∧ o.dict = some builtinsNs ∧ o.data = .plain)
    (F : ∀ base : Heap, K.In base → base.Ns mainGlobals mg → LamX.TabB base mg c T → SysB base → FnG P w K mg base CX0 k fa sp) {H : Hp} (B : Begin K s1.heap T H) (hok : HOk P w H s1.heap)
    (hsp : sp [.ref a] H (fun v _ => v = .bl true) fun _ _ _ => False) :
    codeAny (model P w) callerA (.call (.ref fa) ⟨[.ref a], []⟩) (fun r s' => r = .ok (.ret (.bool true)) ∧ OldK s1.heap s'.heap ∧ s'.os = s1.os ∧ AllBare s'.gens) s1 := by
  let base := hidT s1.heap H
  have free : ∀ {b : Addr} {o : Obj}, s1.heap.get? b = some o → (∀ items n, o.data ≠ .seq items n) → o.data ≠ .fields #[] → base.get? b = some o := fun {b o} e d1 d2 => by
    refine hidT_get e ?_
    by_cases q : b = T
    · rw [q, eT] at e
      cases e
      exact (d2 rfl).elim
    · rcases B.rest b q with z | ⟨o2, xs, items, n, _, _, e2, z⟩
      · exact z
      · rw [e] at e2
        cases e2
        exact (d1 _ _ z).elim
  have names : ∀ {b : Addr} {m : Str → Option Value}, s1.heap.Ns b m → base.Ns b m := fun z => by
    obtain ⟨o, es, ep, e, d, r⟩ := z
    exact ⟨o, es, ep, free e (fun _ _ y => by rw [d] at y; cases y) (fun y => by rw [d] at y; cases y), d, r⟩
  have hK : K.In base := fun b o e => by
    refine hidT_get (KX b o e) ?_
    by_cases q : b = T
    · rw [q, nT] at e
      cases e
    · rcases B.rest b q with z | ⟨o2, xs, items, n, _, z, _⟩
      · exact z
      · rw [e] at z
        cases z
  have lim : base.NoLimit := by
    obtain ⟨m, h1, h2⟩ := hlim
    exact ⟨m, names h1, h2⟩
  have TB : LamX.TabB base mg c T := by
    refine ⟨?_, ?_, fun z => ?_⟩
    · obtain ⟨o, us, file, tf, flags, tg, inF, text, tt, e1, p1, p2, p3, p4, p5, p6, p7, p8, p9⟩ := cT
      exact ⟨o, us, file, tf, flags, tg, inF, text, tt, free e1 (fun _ _ y => by rw [p2] at y; cases y) (fun y => by rw [p2] at y; cases y; simp at p3), p1, p2, p3, p4, p5, p6, p7, p8, p9⟩
    · obtain ⟨m, o, q1, q2, q3, q4, q5, q6⟩ := main
      refine ⟨m, o, q1, q2, fun y => ?_, fun y => ?_, free q3 (fun _ _ y => by rw [q6] at y; cases y) (fun y => by rw [q6] at y; cases y), q4, q5, q6⟩
      · obtain ⟨og, es, ep, e, d, _⟩ := hns
        rw [y, e] at q3
        cases q3
        rw [q6] at d
        cases d
      · rw [y, eT] at q3
        cases q3
        cases q6
    · obtain ⟨og, es, ep, e, d, _⟩ := hns
      rw [z, eT] at e
      cases e
      cases d
  have e0 : Env0 P w K mg base callerA [] s1 H :=
    { frames := rfl, mod := ⟨hK, names hns, ⟨mb, names hb, hbb⟩, lim⟩, bs := fun b o e => of_hidT e, bsz := Nat.le_of_eq (hidT_size _ _), funs := trivial, frf := fun b hb => (List.not_mem_nil hb).elim, hok := hok, bare := .of_eq hg }
  refine codeAny_mono (F base hK (names hns) TB (let ⟨m, z⟩ := hsy; ⟨m, names z⟩) callerA [] s1 H [.ref a] [.ref a] _ _ hr rfl e0 (.cons rfl .nil) hsp) fun r s' h => ?_
  cases r with
  | error e => exact False.elim h
  | ok fl =>
    cases fl with
    | next => exact False.elim h
    | brk => exact False.elim h
    | cont => exact False.elim h
    | ret u =>
      obtain ⟨v, H2, os, bare, un, ok2, rv, q⟩ := h
      subst q
      cases rv
      have still : ∀ b o, b ≠ T → s1.heap.get? b = some o → s'.heap.get? b = some o := fun b o nb e => by
        rcases B.rest b nb with z | ⟨o2, xs, items, n, z, _⟩
        · exact un.keep b o e z (fun y => List.not_mem_nil y) (fun y => List.not_mem_nil y)
        · have e1 := (hok b _ z).1
          have e2 := (ok2 b _ (un.frzs b o2 _ z)).1
          rw [e] at e1
          cases e1
          exact e2
      obtain ⟨more, z⟩ := un.tbls T #[] B.tab
      have wide := ok2 T _ z
      refine ⟨rfl, ⟨fun b o e => ?_, fun b o e => ?_⟩, os, bare⟩
      · by_cases q : b = T
        · subst q
          rw [eT] at e
          cases e
          exact .inr (.inl ⟨(cT.tab eT).isCodeTable, rfl, #[], _, rfl, by rw [Array.empty_append]; exact wide⟩)
        · exact .inl (still b o q e)
      · by_cases q : b = T
        · subst q
          exact ⟨_, wide⟩
        · exact ⟨o, still b o q e⟩
theorem end_callTB (KX : K.In s1.heap) (hns : s1.heap.Ns mainGlobals mg) (hb : s1.heap.Ns builtinsNs mb) (hbb : ∀ x : Str, x ≠ "__name__" → mb x = bootBuiltins x) (hlim : s1.heap.NoLimit) (hsy : SysB s1.heap) (hg : s1.gens = #[]) (hr : Room k callerA)
    (eT : s1.heap.get? T = some tab0) (nT : K.lookup T = none) (cT : PySem.W.CodeHd s1.heap c T)
    (main : ∃ (m : Addr) (o : Obj), mg "__builtins__" = some (.ref m) ∧ m ≠ builtinsNs ∧ s1.heap.get? m = some o ∧ o.cls = .type "module" ∧ o.dict = some builtinsNs ∧ o.data = .plain)
    (ha : s1.heap.get? a = some { cls := .type "list", data := .seq vs.toArray }) (hi : IntsAre vs ns) (hl : ns.length ≤ sizeLine) (F : ∀ base : Heap, K.In base → base.Ns mainGlobals mg → LamX.TabB base mg c T → SysB base → FnG P w K mg base CX0 k fa sp)
    (hsp : ∀ H : Hp, H T = some (.tbl #[]) → SqL K H a (ns.map V.int) → sp [.ref a] H (fun v _ => v = .bl true) fun _ _ _ => False) :
    codeAny (model P w) callerA (.call (.ref fa) ⟨[.ref a], []⟩) (fun r s' => r = .ok (.ret (.bool true)) ∧ OldK s1.heap s'.heap ∧ s'.os = s1.os ∧ AllBare s'.gens) s1 := by
  have rv := vals_ints hi
  have hl2 : (ns.map V.int).length ≤ sizeLine := by rw [List.length_map]; exact hl
  have naT : a ≠ T := fun z => by
    rw [z, eT] at ha
    cases ha
  cases hk : K.lookup a with
  | some o =>
    have e := KX a o hk
    rw [ha] at e
    cases e
    let H : Hp := fun b => if b = T then some (.tbl #[]) else none
    have HT : H T = some (.tbl #[]) := if_pos rfl
    have HN : ∀ b, b ≠ T → H b = none := fun b n => if_neg n
    refine end_fromTB KX hns hb hbb hlim hsy hg hr eT nT cT main F (H := H) ⟨HT, fun b n => .inl (HN b n)⟩ (fun b u z => ?_) (hsp H HT ?_)
    · by_cases q : b = T
      · subst q
        rw [HT] at z
        cases z
        exact eT
      · rw [HN b q] at z
        cases z
    · exact .inr ⟨_, vs.toArray, _, hk, rfl, rfl, rfl, by rw [List.size_toArray, hi.length]; exact hl, by simpa using rv⟩
  | none =>
    let o : Obj := { cls := .type "list", data := .seq vs.toArray }
    let H : Hp := fun b => if b = a then some (.frz o (.lst (ns.map V.int))) else if b = T then some (.tbl #[]) else none
    have HA : H a = some (.frz o (.lst (ns.map V.int))) := if_pos rfl
    have HT : H T = some (.tbl #[]) := by show (if T = a then _ else _) = _; rw [if_neg (Ne.symm naT), if_pos rfl]
    have HN : ∀ b, b ≠ a → b ≠ T → H b = none := fun b n n2 => by show (if b = a then _ else _) = _; rw [if_neg n, if_neg n2]
    refine end_fromTB KX hns hb hbb hlim hsy hg hr eT nT cT main F (H := H) ⟨HT, fun b n => ?_⟩ (fun b u z => ?_) (hsp H HT (.inl (.inr ⟨_, HA⟩)))
    · by_cases q : b = a
      · subst q
        exact .inr ⟨o, _, _, _, HA, hk, ha, rfl⟩
      · exact .inl (HN b q n)
    · by_cases q : b = a
      · subst q
        rw [HA] at z
        cases z
        exact ⟨ha, hl2, vs, _, rv, ha⟩
      · by_cases q2 : b = T
        · subst q2
          rw [HT] at z
          cases z
          exact eT
        · rw [HN b q q2] at z
          cases z
end
/-- what is to be known of the law's promise at the head's heap -/
def LawTB (l : PySem.W.OpenLaw) (w : World) (K : PySem.W.Frag) (k n : Nat) (mg : Str → Option Value) (fa : Addr) (h : Heap) : Prop :=
  ∃ (c T : Addr) (sp : Sp), h.get? T = some tab0 ∧ K.lookup T = none ∧ PySem.W.CodeHd h c T ∧
    (∀ (H : Hp) (a : Addr) (ns : List Int), ns.length ≤ n → H T = some (.tbl #[]) → SqL K H a (ns.map V.int) → sp [.ref a] H (fun v _ => v = .bl true) fun _ _ _ => False) ∧
    ∀ base : Heap, K.In base → base.Ns mainGlobals mg → LamX.TabB base mg c T → SysB base → FnG l.prog w K mg base CX0 k fa sp
theorem walk_ofTGB {l : PySem.W.OpenLaw} {n k : Nat} {q : Program} {loose : List Str} {XP : (Str → Option Value) → Heap → Prop} {YP : World → Heap → Prop} {d : DefRec} {K : Params → PySem.W.Frag}
    (hi : importsNone q = true) (hn : l.most = some n) (hn2 : n ≤ sizeLine) (hdf : d.params.defaults = []) (hr : Room k callerA) (hY : ∀ (w : World) (h : Heap), YP w h → (K w.params).In h)
    (F : ∀ (w : World) (mg : Str → Option Value) (fa : Addr) (h : Heap), YP w h → (K w.params).In h → h.Ns mainGlobals mg → mg d.name = some (.ref fa) → LawTB l w (K w.params) k n mg fa h) :
    PySem.W.WalkO q loose XP YP l.row.toRowW d [] (fun f vs => PySem.call f vs) := by
  refine Att.attach_call hn hdf fun w s0 s1 mg mb fa o pm cd doc a vs ns G Y ho hd hcd hmg hobj hints hlen hg => ?_
  have KX := hY w _ Y
  obtain ⟨c, T, sp, eT, nT, cT, hsp, hF⟩ := F w mg fa _ Y KX G.T.g hmg
  exact end_callTB KX G.T.g G.T.b G.T.builtins G.T.nolimit (let ⟨m, z, _⟩ := (G.T.seer hi).mods; ⟨m, z⟩) hg hr eT nT cT G.T.bmain hobj hints (Nat.le_trans hlen hn2) hF fun H hH hS => hsp H a ns hlen hH hS
end Ow
end
section
set_option maxHeartbeats 4000000
namespace Ow
open PySem PySem.Spec PyProof.Rows L2
section
variable {X : Cx} {CX : CXT} {k : Nat} {C g : Addr} {sp : Sp} {E : XK} {o : Expr} {m : Str} {pos apos : Pos} {ta : TE} {pl : Sem Bool}
/-- o.m(k=e, ..): an instance's method, by keywords alone -/
def tMethK (C : Addr) (m : Str) (n : Nat) (sp : Sp) (gV : List V → List V → List V) (E : XK) (ta : TE) (tk : TA) : TE := fun σ H Q => ta σ H fun x H1 => ∃ a dx fs, x = .ref a ∧ H1 a = some (.ins C dx fs) ∧ fs.lookup m = none ∧ tk σ H1 fun zs H2 => zs.length = n ∧ sp (gV [x] zs) H2 Q E
theorem pe_methK {kws : List Keyword} {fd : FuncData} {ps ks : List Str} {tk : TA} {gl : List Value → List Value → List Value} {gV : List V → List V → List V} (he : PE X o ta) (c : Cls X.K C) (hm : Meth X.K C m g)
    (F : FnOk X.prog X.w X.K X.mg X.base CX k g fd ps sp) (hr : Room k X.A) (hb : KBn X.K fd ps 1 ks gl gV) (hx : Passes CX X E) (hkw : PK X kws tk)
    (hall : (backToKw pos (keywordEach kws X.env)).all (·.1.isSome) = true := by rfl) (hks : (backToKw pos (keywordEach kws X.env)).filterMap (·.1) = ks := by rfl)
    (hpl : ((backTo pos (starEach [] X.env)).any (·.1) || (backToKw pos (keywordEach kws X.env)).any (·.1.isNone)) = false := by rfl)
    (ht : eval (.Call (.Attribute o m apos) [] kws pos) X.env = (do
      let ov ← eval o X.env
      standAt apos.atName
      let (f, first) ← holding [ov] (getMethod ov m pl)
      callWith pos f first (backTo pos (starEach [] X.env)) (backToKw pos (keywordEach kws X.env))) := by rfl) :
    PE X (.Call (.Attribute o m apos) [] kws pos) (tMethK C m ks.length sp gV E ta tk) := by
  refine ⟨fun pins s σ H Q I h => ?_⟩
  refine PySem.W.methodCall_KW (pl := pl) (thn (he.run pins s σ H _ I h) fun u s1 ⟨x, H1, I1, rx, a, dx, fs, ex, ea, l, q⟩ => ?_) ht
  subst ex
  obtain rfl : u = Value.ref a := rx
  refine getmeth_ok I1 ea c hm l ?_
  refine PySem.W.callWith_KW0 (h₀ := X.base) I.ok.mod.kin hm.kp hall ?_ hpl
  refine thn (hkw.run pos pins s1 σ H1 _ I1 q) fun ws s3 ⟨zs, H3, I3, rz, l2, q2⟩ => ⟨I3.kIn, ?_⟩
  rw [hks]
  have r1 : Vals [V.ref a] [Value.ref a] := .cons rfl .nil
  refine wpAny_call (codeAny_mono (F.run X.A X.stack s3 H3 ⟨[.ref a], ks.zip ws⟩ (gl [.ref a] ws) (gV [.ref a] zs) Q E hr I3.env0 (hb.to s3 [.ref a] ws I3.kIn rfl (rz.length.symm.trans l2)) (hb.rel r1 rz) q2) fun r s' hq => ?_)
  cases r with
  | error e => exact hx pins σ H3 s3 e s' I3 hq
  | ok fl =>
    cases fl with
    | ret u => exact I3.after hq
    | next => exact False.elim hq
    | brk => exact False.elim hq
    | cont => exact False.elim hq
end
end Ow
end
section
set_option maxHeartbeats 4000000
/-! range(a, b) for any two integers. -/
namespace Ow
open PySem PySem.Spec PyProof.Rows L2
theorem long_self {prog : Program} {w : World} {A : Around} {E : Value → Shared → Prop} {s : Shared} {it : Addr} {x left step : Int} {Q : Value → Shared → Prop} (hit : IsLongIter s.heap it x left step) (h : Q (.ref it) s) : wpAny (model prog w) A (pyIter (.ref it)) Q E s := by
  have hT : s.TypeIs (.ref it) "longrange_iterator" := ⟨_, hit, rfl⟩
  refine wpAny_pyIter_slot hT F.slot_longrange_iterator_iter (wpAny_call_entry F.slot_longrange_iterator_iter hT F.entry_longrange_iterator_iter ?_ (F.args_longrange_iterator_iter_1 (.ref it)))
  exact wpAny_pure ⟨.ref it, rfl, "longrange_iterator", .builtin "longrange_iterator.__next__", hT, F.slot_longrange_iterator_next.lookup, h⟩
theorem turn_long {P : Program} {w : World} {K : PySem.W.Frag} {tg : Expr} (it : Addr) (lo : Int) (n : Nat) : Turn P w K tg (Itr lo n) [it] it fun i h => i ≤ n ∧ IsLongIter h it (lo + (i : Nat) * 1) ((n : Int) - (i : Nat)) 1 where
  mem := by simp
  obj := fun i h st b hb => by
    have e : b = it := by simpa using hb
    subst e
    exact ⟨_, st.2, fun v z => by cases z⟩
  keep := fun i h h' st k => ⟨st.1, k it (by simp) _ st.2⟩
  item := by
    intro X hP hw hK hc i pins s σ H E I hf st hg
    subst hP hw
    obtain ⟨f0, f1, f2, f3, f4, f5⟩ := hf it (by simp)
    have W := Walks.longrange (prog := X.prog) (w := X.w) (I.ok.hd hc) it lo 1 n
    have hlt : i < n := hg
    refine W.item i s _ E hlt st.2 fun v h' tk hv st' kk => ?_
    obtain ⟨t, rfl⟩ := hv
    have I1 := I.turned (t' := tk) (h' := h') (it := it) (fun b o hb e => kk b o (by simpa using hb) e) f0 f1 f3 f4 f5
    refine ⟨.int (lo + (i : Nat) * 1) t, rfl, go_of st' rfl rfl (by decide) ?_⟩
    exact ⟨.int (lo + (i : Nat)), H, I1, ⟨t, by rw [Int.mul_one]⟩, ⟨rfl, rfl⟩, ⟨hlt, st'⟩, fun b hb => (hf b hb).1⟩
  done := by
    intro X hP hw hK hc i pins s σ H E I hf st hg
    subst hP hw
    obtain ⟨f0, f1, f2, f3, f4, f5⟩ := hf it (by simp)
    have W := Walks.longrange (prog := X.prog) (w := X.w) (I.ok.hd hc) it lo 1 n
    have hle : n ≤ i := hg
    obtain ⟨h1, h2⟩ := st
    have e : i = n := by omega
    subst e
    exact W.done s _ E h2 fun h' tk kk => ⟨rfl, I.turned (fun b o hb e => kk b o (by simpa using hb) e) f0 f1 f3 f4 f5⟩
  self := fun A i s Q E st h => long_self st.2 h
theorem size_nat (i j : Int) : Builtin.Range.rangeSize i j 1 = ((j - i).toNat : Int) := by
  rw [rangeSize_one]
  split <;> omega
def iRng2L (ta : TA) : TI := fun σ H R => ta σ H fun vs H1 => ∃ i j : Int, vs = [.int i, .int j] ∧ R (Itr i (j - i).toNat) H1
theorem pi_range2L {X : Cx} {tg a b : Expr} {ta : TA} {p pos : Pos} (hg : Gl X "range") (hm : X.mg "range" = none) (ha : PA X [a, b] ta) (hs : starEach [a, b] X.env = [(false, eval a X.env), (false, eval b X.env)] := by rfl) (hs2 : starEach [b] X.env = [(false, eval b X.env)] := by rfl) :
    PI X tg (.Call (.Name "range" p) [a, b] [] pos) (iRng2L ta) := by
  refine ⟨fun pins s σ H R I h => ?_⟩
  refine Call_ (ld_blt I hg hm boot_range (PyProof.Rows.callWith_type1 (thn (ha.run pos pins s σ H _ I h) fun us s1 ⟨vs, H1, I1, r1, i, j, ex, q⟩ => ?_) (by rw [hs, hs2]) (by rw [hs2]; rfl)))
  subst ex
  obtain ⟨u, u2, rfl, ru, ru2⟩ := vals2 r1
  obtain ⟨t, rfl⟩ := ru
  obtain ⟨t', rfl⟩ := ru2
  refine call_range_2 ?_
  have I2 := I1.kept (h' := s1.heap.push { cls := .type "range", data := .fields #[.int i t, .int j t', .int 1 s1.toks] }) (t' := s1.toks + 1) fun b o e => Heap.get?_push_of_some _ e
  have new := IsRange.new s1.heap i j 1 t t' s1.toks
  cases hz : Builtin.Range.small i j 1 with
  | true =>
    refine wpAny_pyIter_range new hz ?_
    rw [size_nat]
    refine pi_one I2 _ (turn_range _ i _) ?_ q
    have e := Heap.get?_push_size (s1.heap.push { cls := .type "range", data := .fields #[.int i t, .int j t', .int 1 s1.toks] }) (o := { cls := .type "range_iterator", data := .fields #[rawInt i, rawInt ((j - i).toNat : Int), rawInt 1] }) rfl
    simpa using e
  | false =>
    refine wpAny_pyIter_longrange new hz ?_
    rw [size_nat]
    refine pi_one I2 _ (turn_long _ i _) ?_ q
    have e := Heap.get?_push_size (s1.heap.push { cls := .type "range", data := .fields #[.int i t, .int j t', .int 1 s1.toks] }) (o := { cls := .type "longrange_iterator", data := .fields #[rawInt i, rawInt ((j - i).toNat : Int), rawInt 1] }) rfl
    exact ⟨Nat.zero_le _, by simpa using e⟩
end Ow
end
section
set_option maxHeartbeats 4000000
/-! The end of a law of which several defs hand lambdas over: a table for each of them. -/
namespace Ow
open PySem PySem.Spec PyProof.Rows L2 StX
section
variable {P : Program} {w : World} {K : PySem.W.Frag} {mg mb : Str → Option Value} {k : Nat} {fa a : Addr} {TL : List (Addr × Addr)} {sp : Sp} {s1 : Shared} {vs : List Value} {ns : List Int}
/-- what is known of the codes' tables ahead of the call -/
structure TabsAt (K : PySem.W.Frag) (h : Heap) (TL : List (Addr × Addr)) : Prop where
  at_ : ∀ p ∈ TL, h.get? p.2 = some tab0
  no : ∀ p ∈ TL, K.lookup p.2 = none
  cd : ∀ p ∈ TL, PySem.W.CodeHd h p.1 p.2
/-- what stands in the abstract heap at the begin: the tables, and perhaps the script -/
structure BeginL (K : PySem.W.Frag) (h : Heap) (TL : List (Addr × Addr)) (H : Hp) : Prop where
  tab : ∀ p ∈ TL, H p.2 = some (.tbl #[])
  rest : ∀ b, (∀ p ∈ TL, b ≠ p.2) → H b = none ∨ ∃ o xs items n, H b = some (.frz o (.lst xs)) ∧ K.lookup b = none ∧ h.get? b = some o ∧ o.data = .seq items n
theorem end_fromL (KX : K.In s1.heap) (hns : s1.heap.Ns mainGlobals mg) (hb : s1.heap.Ns builtinsNs mb) (hbb : ∀ x : Str, x ≠ "__name__" → mb x = bootBuiltins x) (hlim : s1.heap.NoLimit) (hsy : SysB s1.heap) (hg : s1.gens = #[]) (hr : Room k callerA)
    (tt : TabsAt K s1.heap TL)
    (main : ∃ (m : Addr) (o : Obj), mg "__builtins__" = some (.ref m) ∧ m ≠ builtinsNs ∧ s1.heap.get? m = some o ∧ o.cls = .type "module" ∧ o.dict = some builtinsNs ∧ o.data = .plain)
    (F : ∀ base : Heap, K.In base → base.Ns mainGlobals mg → (∀ p ∈ TL, LamX.TabB base mg p.1 p.2) → SysB base → FnG P w K mg base CX0 k fa sp) {H : Hp} (B : BeginL K s1.heap TL H) (hok : HOk P w H s1.heap)
    (hsp : sp [.ref a] H (fun v _ => v = .bl true) fun _ _ _ => False) :
    codeAny (model P w) callerA (.call (.ref fa) ⟨[.ref a], []⟩) (fun r s' => r = .ok (.ret (.bool true)) ∧ OldK s1.heap s'.heap ∧ s'.os = s1.os ∧ AllBare s'.gens) s1 := by
  let base := hidT s1.heap H
  have free : ∀ {b : Addr} {o : Obj}, s1.heap.get? b = some o → (∀ items n, o.data ≠ .seq items n) → o.data ≠ .fields #[] → base.get? b = some o := fun {b o} e d1 d2 => by
    refine hidT_get e ?_
    by_cases q : ∃ p ∈ TL, b = p.2
    · obtain ⟨p, hp, rfl⟩ := q
      rw [tt.at_ p hp] at e
      cases e
      exact (d2 rfl).elim
    · rcases B.rest b (fun p hp z => q ⟨p, hp, z⟩) with z | ⟨o2, xs, items, n, _, _, e2, z⟩
      · exact z
      · rw [e] at e2
        cases e2
        exact (d1 _ _ z).elim
  have names : ∀ {b : Addr} {m : Str → Option Value}, s1.heap.Ns b m → base.Ns b m := fun z => by
    obtain ⟨o, es, ep, e, d, r⟩ := z
    exact ⟨o, es, ep, free e (fun _ _ y => by rw [d] at y; cases y) (fun y => by rw [d] at y; cases y), d, r⟩
  have hK : K.In base := fun b o e => by
    refine hidT_get (KX b o e) ?_
    by_cases q : ∃ p ∈ TL, b = p.2
    · obtain ⟨p, hp, rfl⟩ := q
      rw [tt.no p hp] at e
      cases e
    · rcases B.rest b (fun p hp z => q ⟨p, hp, z⟩) with z | ⟨o2, xs, items, n, _, z, _⟩
      · exact z
      · rw [e] at z
        cases z
  have lim : base.NoLimit := by
    obtain ⟨m, h1, h2⟩ := hlim
    exact ⟨m, names h1, h2⟩
  have TB : ∀ p ∈ TL, LamX.TabB base mg p.1 p.2 := fun p hp => by
    have eT := tt.at_ p hp
    refine ⟨?_, ?_, fun z => ?_⟩
    · obtain ⟨o, us, file, tf, flags, tg, inF, text, tx, e1, p1, p2, p3, p4, p5, p6, p7, p8, p9⟩ := tt.cd p hp
      exact ⟨o, us, file, tf, flags, tg, inF, text, tx, free e1 (fun _ _ y => by rw [p2] at y; cases y) (fun y => by rw [p2] at y; cases y; simp at p3), p1, p2, p3, p4, p5, p6, p7, p8, p9⟩
    · obtain ⟨m, o, q1, q2, q3, q4, q5, q6⟩ := main
      refine ⟨m, o, q1, q2, fun y => ?_, fun y => ?_, free q3 (fun _ _ y => by rw [q6] at y; cases y) (fun y => by rw [q6] at y; cases y), q4, q5, q6⟩
      · obtain ⟨og, es, ep, e, d, _⟩ := hns
        rw [y, e] at q3
        cases q3
        rw [q6] at d
        cases d
      · rw [y, eT] at q3
        cases q3
        cases q6
    · obtain ⟨og, es, ep, e, d, _⟩ := hns
      rw [z, eT] at e
      cases e
      cases d
  have e0 : Env0 P w K mg base callerA [] s1 H :=
    { frames := rfl, mod := ⟨hK, names hns, ⟨mb, names hb, hbb⟩, lim⟩, bs := fun b o e => of_hidT e, bsz := Nat.le_of_eq (hidT_size _ _), funs := trivial, frf := fun b hb => (List.not_mem_nil hb).elim, hok := hok, bare := .of_eq hg }
  refine codeAny_mono (F base hK (names hns) TB (let ⟨m, z⟩ := hsy; ⟨m, names z⟩) callerA [] s1 H [.ref a] [.ref a] _ _ hr rfl e0 (.cons rfl .nil) hsp) fun r s' h => ?_
  cases r with
  | error e => exact False.elim h
  | ok fl =>
    cases fl with
    | next => exact False.elim h
    | brk => exact False.elim h
    | cont => exact False.elim h
    | ret u =>
      obtain ⟨v, H2, os, bare, un, ok2, rv, q⟩ := h
      subst q
      cases rv
      have still : ∀ b o, (∀ p ∈ TL, b ≠ p.2) → s1.heap.get? b = some o → s'.heap.get? b = some o := fun b o nb e => by
        rcases B.rest b nb with z | ⟨o2, xs, items, n, z, _⟩
        · exact un.keep b o e z (fun y => List.not_mem_nil y) (fun y => List.not_mem_nil y)
        · have e1 := (hok b _ z).1
          have e2 := (ok2 b _ (un.frzs b o2 _ z)).1
          rw [e] at e1
          cases e1
          exact e2
      refine ⟨rfl, ⟨fun b o e => ?_, fun b o e => ?_⟩, os, bare⟩
      · by_cases q : ∃ p ∈ TL, b = p.2
        · obtain ⟨p, hp, rfl⟩ := q
          obtain ⟨more, z⟩ := un.tbls p.2 #[] (B.tab p hp)
          have wide := ok2 p.2 _ z
          have eT := tt.at_ p hp
          rw [eT] at e
          cases e
          exact .inr (.inl ⟨((tt.cd p hp).tab eT).isCodeTable, rfl, #[], _, rfl, by rw [Array.empty_append]; exact wide⟩)
        · exact .inl (still b o (fun p hp z => q ⟨p, hp, z⟩) e)
      · by_cases q : ∃ p ∈ TL, b = p.2
        · obtain ⟨p, hp, rfl⟩ := q
          obtain ⟨more, z⟩ := un.tbls p.2 #[] (B.tab p hp)
          exact ⟨_, ok2 p.2 _ z⟩
        · exact ⟨o, still b o (fun p hp z => q ⟨p, hp, z⟩) e⟩
theorem end_callL (KX : K.In s1.heap) (hns : s1.heap.Ns mainGlobals mg) (hb : s1.heap.Ns builtinsNs mb) (hbb : ∀ x : Str, x ≠ "__name__" → mb x = bootBuiltins x) (hlim : s1.heap.NoLimit) (hsy : SysB s1.heap) (hg : s1.gens = #[]) (hr : Room k callerA)
    (tt : TabsAt K s1.heap TL)
    (main : ∃ (m : Addr) (o : Obj), mg "__builtins__" = some (.ref m) ∧ m ≠ builtinsNs ∧ s1.heap.get? m = some o ∧ o.cls = .type "module" ∧ o.dict = some builtinsNs ∧ o.data = .plain)
    (ha : s1.heap.get? a = some { cls := .type "list", data := .seq vs.toArray }) (hi : IntsAre vs ns) (hl : ns.length ≤ sizeLine) (F : ∀ base : Heap, K.In base → base.Ns mainGlobals mg → (∀ p ∈ TL, LamX.TabB base mg p.1 p.2) → SysB base → FnG P w K mg base CX0 k fa sp)
    (hsp : ∀ H : Hp, (∀ p ∈ TL, H p.2 = some (.tbl #[])) → SqL K H a (ns.map V.int) → sp [.ref a] H (fun v _ => v = .bl true) fun _ _ _ => False) :
    codeAny (model P w) callerA (.call (.ref fa) ⟨[.ref a], []⟩) (fun r s' => r = .ok (.ret (.bool true)) ∧ OldK s1.heap s'.heap ∧ s'.os = s1.os ∧ AllBare s'.gens) s1 := by
  have rv := vals_ints hi
  have hl2 : (ns.map V.int).length ≤ sizeLine := by rw [List.length_map]; exact hl
  have naT : ∀ p ∈ TL, a ≠ p.2 := fun p hp z => by
    rw [z, tt.at_ p hp] at ha
    cases ha
  cases hk : K.lookup a with
  | some o =>
    have e := KX a o hk
    rw [ha] at e
    cases e
    let H : Hp := fun b => if b ∈ TL.map Prod.snd then some (.tbl #[]) else none
    have HT : ∀ p ∈ TL, H p.2 = some (.tbl #[]) := fun p hp => if_pos (List.mem_map_of_mem hp)
    have HN : ∀ b, (∀ p ∈ TL, b ≠ p.2) → H b = none := fun b n => if_neg fun z => by
      obtain ⟨p, hp, e⟩ := List.mem_map.mp z
      exact n p hp e.symm
    refine end_fromL KX hns hb hbb hlim hsy hg hr tt main F (H := H) ⟨HT, fun b n => .inl (HN b n)⟩ (fun b u z => ?_) (hsp H HT ?_)
    · by_cases q : ∃ p ∈ TL, b = p.2
      · obtain ⟨p, hp, rfl⟩ := q
        rw [HT p hp] at z
        cases z
        exact tt.at_ p hp
      · rw [HN b fun p hp y => q ⟨p, hp, y⟩] at z
        cases z
    · exact .inr ⟨_, vs.toArray, _, hk, rfl, rfl, rfl, by rw [List.size_toArray, hi.length]; exact hl, by simpa using rv⟩
  | none =>
    let o : Obj := { cls := .type "list", data := .seq vs.toArray }
    let H : Hp := fun b => if b = a then some (.frz o (.lst (ns.map V.int))) else if b ∈ TL.map Prod.snd then some (.tbl #[]) else none
    have HA : H a = some (.frz o (.lst (ns.map V.int))) := if_pos rfl
    have HT : ∀ p ∈ TL, H p.2 = some (.tbl #[]) := fun p hp => by show (if p.2 = a then _ else _) = _; rw [if_neg (Ne.symm (naT p hp)), if_pos (List.mem_map_of_mem hp)]
    have HN : ∀ b, b ≠ a → (∀ p ∈ TL, b ≠ p.2) → H b = none := fun b n n2 => by
      show (if b = a then _ else _) = _
      rw [if_neg n, if_neg fun z => by
        obtain ⟨p, hp, e⟩ := List.mem_map.mp z
        exact n2 p hp e.symm]
    refine end_fromL KX hns hb hbb hlim hsy hg hr tt main F (H := H) ⟨HT, fun b n => ?_⟩ (fun b u z => ?_) (hsp H HT (.inl (.inr ⟨_, HA⟩)))
    · by_cases q : b = a
      · subst q
        exact .inr ⟨o, _, _, _, HA, hk, ha, rfl⟩
      · exact .inl (HN b q n)
    · by_cases q : b = a
      · subst q
        rw [HA] at z
        cases z
        exact ⟨ha, hl2, vs, _, rv, ha⟩
      · by_cases q2 : ∃ p ∈ TL, b = p.2
        · obtain ⟨p, hp, rfl⟩ := q2
          rw [HT p hp] at z
          cases z
          exact tt.at_ p hp
        · rw [HN b q fun p hp y => q2 ⟨p, hp, y⟩] at z
          cases z
end
/-- what is to be known of the law's promise at the head's heap -/
def LawTL (l : PySem.W.OpenLaw) (w : World) (K : PySem.W.Frag) (k n : Nat) (mg : Str → Option Value) (fa : Addr) (h : Heap) : Prop :=
  ∃ (TL : List (Addr × Addr)) (sp : Sp), TabsAt K h TL ∧
    (∀ (H : Hp) (a : Addr) (ns : List Int), ns.length ≤ n → (∀ p ∈ TL, H p.2 = some (.tbl #[])) → SqL K H a (ns.map V.int) → sp [.ref a] H (fun v _ => v = .bl true) fun _ _ _ => False) ∧
    ∀ base : Heap, K.In base → base.Ns mainGlobals mg → (∀ p ∈ TL, LamX.TabB base mg p.1 p.2) → SysB base → FnG l.prog w K mg base CX0 k fa sp
theorem walk_ofTL {l : PySem.W.OpenLaw} {n k : Nat} {q : Program} {loose : List Str} {XP : (Str → Option Value) → Heap → Prop} {YP : World → Heap → Prop} {d : DefRec} {K : Params → PySem.W.Frag}
    (hi : importsNone q = true) (hn : l.most = some n) (hn2 : n ≤ sizeLine) (hdf : d.params.defaults = []) (hr : Room k callerA) (hY : ∀ (w : World) (h : Heap), YP w h → (K w.params).In h)
    (F : ∀ (w : World) (mg : Str → Option Value) (fa : Addr) (h : Heap), YP w h → (K w.params).In h → h.Ns mainGlobals mg → mg d.name = some (.ref fa) → LawTL l w (K w.params) k n mg fa h) :
    PySem.W.WalkO q loose XP YP l.row.toRowW d [] (fun f vs => PySem.call f vs) := by
  refine Att.attach_call hn hdf fun w s0 s1 mg mb fa o pm cd doc a vs ns G Y ho hd hcd hmg hobj hints hlen hg => ?_
  have KX := hY w _ Y
  obtain ⟨TL, sp, tt, hsp, hF⟩ := F w mg fa _ Y KX G.T.g hmg
  exact end_callL KX G.T.g G.T.b G.T.builtins G.T.nolimit (let ⟨m, z, _⟩ := (G.T.seer hi).mods; ⟨m, z⟩) hg hr tt G.T.bmain hobj hints (Nat.le_trans hlen hn2) hF fun H hH hS => hsp H a ns hlen hH hS
end Ow
end
section
set_option maxHeartbeats 4000000
/-! zip of two or three texts. -/
namespace Ow
open PySem PySem.Spec PyProof.Rows L2
/-- a walk whose items are new tuples with a known content -/
def ItZ (n : Nat) (f : Nat → List V) : It := ⟨fun i _ => i < n, fun i H v H' => ∃ T, v = .ref T ∧ H T = none ∧ H' = upd H T (.tup (f i)), fun i _ => n ≤ i⟩
theorem turn_walksT {P : Program} {w : World} {K : PySem.W.Frag} {elts : List Expr} {kk : Nat} {tpos : Pos} {I : Addr} {fp wr : List Addr} {n : Nat} {Pt : Nat → Array Value → Prop} {St : Nat → Heap → Prop} {Mid : Nat → Addr → Heap → Prop} {f : Nat → List V}
    (W : ∀ A : Around, A.in1.handled = none → WalksT P w A I fp wr n Pt St Mid) (hI : I ∈ fp) (hob : ∀ i h, St i h → ∀ b ∈ fp, ∃ o, h.get? b = some o ∧ ∀ v, o.data ≠ .cell v)
    (hPt : ∀ i vals, Pt i vals → Vals (f i) vals.toList ∧ (f i).length ≤ sizeLine) (hself : ∀ (A : Around) (i : Nat) (s : Shared) (Q E : Value → Shared → Prop), St i s.heap → Q (.ref I) s → wpAny (model P w) A (pyIter (.ref I)) Q E s) :
    Turn P w K (.Tuple elts kk tpos) (ItZ n f) fp I (fun i h => i ≤ n ∧ St i h) where
  mem := hI
  obj := fun i h st b hb => hob i h st.2 b hb
  keep := fun i h h' st k => by
    have W0 := W { callerA with handled := none } rfl
    exact ⟨st.1, W0.frame i h h' st.2 k⟩
  item := by
    intro X hP hw hK hc i pins s σ H E J hf st hg
    subst hP hw
    have W1 := W X.A (J.ok.hd hc)
    have hlt : i < n := hg
    have hlive : ∀ b ∈ fp, b < s.heap.objs.size := fun b hb => by
      obtain ⟨o, ho, _⟩ := hob i _ st.2 b hb
      exact Heap.lt_size ho
    refine W1.item i s _ E hlt st.2 fun T vals h' tk hp hT ht mid kk1 => ?_
    refine ⟨.ref T, rfl, W1.go elts kk tpos i T _ _ E mid fun h'' st'' kk2 => ?_⟩
    have nw : ∀ b, b ∉ fp → b ∉ wr := fun b hb z => hb (W1.sub b z)
    obtain ⟨rv, hl⟩ := hPt i vals hp
    obtain ⟨oT, h1, h2, h3, h4⟩ := ht
    have ht2 : h''.get? T = some oT := kk2 T oT (W1.apart i T _ mid) h1
    have new : ObjOk X.prog X.w (upd H T (.tup (f i))) h'' T (.tup (f i)) := ⟨hl, vals.toList, rv, ⟨oT, ht2, h2, h3, by simpa using h4⟩⟩
    have J1 : Inv X pins σ (upd H T (.tup (f i))) { s with heap := h'', toks := tk } :=
      J.turnedNew (ch := fp) (fun b o hb q => kk2 b o (nw b hb) (kk1 b o (nw b hb) q)) hf hT new
    exact ⟨.ref T, _, J1, rfl, ⟨T, rfl, J.hok.fresh hT, rfl⟩, ⟨hlt, st''⟩, fun b hb => by
      rw [upd_ne (Nat.ne_of_lt (Nat.lt_of_lt_of_le (hlive b hb) hT))]
      exact (hf b hb).1⟩
  done := by
    intro X hP hw hK hc i pins s σ H E J hf st hg
    subst hP hw
    have W1 := W X.A (J.ok.hd hc)
    have hle : n ≤ i := hg
    obtain ⟨h1, h2⟩ := st
    have e : i = n := by omega
    subst e
    exact W1.done s _ E h2 fun h' tk kk => ⟨rfl, J.turnedL (ch := fp) (fun b o hb q => kk b o (fun z => hb (W1.sub b z)) q) hf⟩
  self := fun A i s Q E st h => hself A i s Q E st.2 h
/-- the signs of texts at an index -/
def sgn (x : Str) (i : Nat) : V := .str ⟨#[x.cps.toList.getD i 0]⟩
def iZipS (ta : TA) : TI := fun σ H R => ta σ H fun vs H1 => ∃ x y : Str, vs = [.str x, .str y] ∧ R (ItZ (min x.cps.size y.cps.size) fun i => [sgn x i, sgn y i]) H1
def iZipS3 (ta : TA) : TI := fun σ H R => ta σ H fun vs H1 => ∃ x y z : Str, vs = [.str x, .str y, .str z] ∧ R (ItZ (min (min x.cps.size y.cps.size) z.cps.size) fun i => [sgn x i, sgn y i, sgn z i]) H1
theorem sgn_rel {x : Str} {i : Nat} {v : Value} (h : ∃ c u, x.cps[i]? = some c ∧ v = .str ⟨#[c]⟩ u) : RelV (sgn x i) v := by
  obtain ⟨c, u, h1, rfl⟩ := h
  refine ⟨u, ?_⟩
  have e : x.cps.toList.getD i 0 = c := by rw [List.getD_eq_getElem?_getD, Array.getElem?_toList, h1]; rfl
  rw [e]
theorem stri_ob {h : Heap} {a : Addr} {ty : String} {x : Str} {t : Tok} {i : Nat} (e : h.IsStrIter a ty x t i) : ∃ o, h.get? a = some o ∧ ∀ v, o.data ≠ .cell v := by
  obtain ⟨o, h1, _, h3⟩ := e
  exact ⟨o, h1, fun v z => by rw [h3] at z; cases z⟩
theorem pi_zipS {X : Cx} {e e2 : Expr} {ta : TA} {p pos tpos : Pos} {elts : List Expr} {kk : Nat} (hg : Gl X "zip") (hm : X.mg "zip" = none) (ha : PA X [e, e2] ta) (hs : starEach [e, e2] X.env = [(false, eval e X.env), (false, eval e2 X.env)] := by rfl) (hs2 : starEach [e2] X.env = [(false, eval e2 X.env)] := by rfl) :
    PI X (.Tuple elts kk tpos) (.Call (.Name "zip" p) [e, e2] [] pos) (iZipS ta) := by
  refine ⟨fun pins s σ H R I h => ?_⟩
  refine Call_ (ld_blt I hg hm boot_zip (PyProof.Rows.callWith_type1 (thn (ha.run pos pins s σ H _ I h) fun us s1 ⟨vs, H1, I1, r1, x, y, ex, q⟩ => ?_) (by rw [hs, hs2]) (by rw [hs2]; rfl)))
  subst ex
  obtain ⟨u, u2, rfl, ⟨t1, rfl⟩, ⟨t2, rfl⟩⟩ := vals2 r1
  refine zip_begins2 (begins_text x t1) (begins_text y t2) trivial trivial fun h' hz hTI hTO h1 h2 hsz hk => wpAny_pyIter_zip hz ?_
  have sep : ZipSep2 (s1.heap.objs.size + 4) (s1.heap.objs.size + 2) (s1.heap.objs.size + 3) s1.heap.objs.size (s1.heap.objs.size + 1) [s1.heap.objs.size] [s1.heap.objs.size + 1] := by
    constructor <;> simp <;> omega
  have fp : ∀ b ∈ ((s1.heap.objs.size + 4) :: (s1.heap.objs.size + 2) :: (s1.heap.objs.size + 3) :: ([s1.heap.objs.size] ++ [s1.heap.objs.size + 1])), FpOk X pins H1 b := fun b hb => by
    have hle : s1.heap.objs.size ≤ b := by
      simp only [List.mem_cons, List.mem_append, List.not_mem_nil, or_false] at hb
      omega
    exact I1.fpOk hle (I1.hok.fresh hle)
  refine ⟨s1.heap.objs.size + 4, _, _, _, H1, rfl, I1.kept (t' := s1.toks) hk, turn_walksT (f := fun i => [sgn x i, sgn y i]) (fun A hA => WalksT.zipD2 sep (Draws.text hA s1.heap.objs.size x t1) (Draws.text hA (s1.heap.objs.size + 1) y t2)) (by simp) (fun i h st b hb => ?_) (fun i vals hp => ?_) (fun A i s Q E st hq => wpAny_pyIter_zip st.1 hq), ⟨Nat.zero_le _, hz, hTI, ⟨_, _, hTO⟩, ⟨_, h1, rfl, rfl⟩, ⟨_, h2, rfl, rfl⟩⟩, fp, q⟩
  · obtain ⟨g1, g2, ⟨a1, a2, g3⟩, g4, g5⟩ := st
    simp only [List.mem_cons, List.mem_append, List.not_mem_nil, or_false] at hb
    rcases hb with rfl | rfl | rfl | rfl | rfl
    · exact ⟨_, g1, fun v z => by cases z⟩
    · exact ⟨_, g2, fun v z => by cases z⟩
    · exact ⟨_, g3, fun v z => by cases z⟩
    · exact stri_ob g4
    · exact stri_ob g5
  · obtain ⟨x1, x2, p1, p2, rfl⟩ := hp
    exact ⟨.cons (sgn_rel p1) (.cons (sgn_rel p2) .nil), by show 2 ≤ sizeLine; decide⟩
theorem pi_zipS3 {X : Cx} {e e2 e3 : Expr} {ta : TA} {p pos tpos : Pos} {elts : List Expr} {kk : Nat} (hg : Gl X "zip") (hm : X.mg "zip" = none) (ha : PA X [e, e2, e3] ta) (hs : starEach [e, e2, e3] X.env = [(false, eval e X.env), (false, eval e2 X.env), (false, eval e3 X.env)] := by rfl) (hs2 : starEach [e2, e3] X.env = [(false, eval e2 X.env), (false, eval e3 X.env)] := by rfl) :
    PI X (.Tuple elts kk tpos) (.Call (.Name "zip" p) [e, e2, e3] [] pos) (iZipS3 ta) := by
  refine ⟨fun pins s σ H R I h => ?_⟩
  refine Call_ (ld_blt I hg hm boot_zip (PyProof.Rows.callWith_type1 (thn (ha.run pos pins s σ H _ I h) fun us s1 ⟨vs, H1, I1, r1, x, y, zz, ex, q⟩ => ?_) (by rw [hs, hs2]) (by rw [hs2]; rfl)))
  subst ex
  obtain ⟨u, us2, rfl, ⟨t1, rfl⟩, r2⟩ : ∃ u us2, us = u :: us2 ∧ RelV (.str x) u ∧ Vals [.str y, .str zz] us2 := by
    cases r1 with
    | cons a b => exact ⟨_, _, rfl, a, b⟩
  obtain ⟨u2, u3, rfl, ⟨t2, rfl⟩, ⟨t3, rfl⟩⟩ := vals2 r2
  refine zip_begins3 (begins_text x t1) (begins_text y t2) (begins_text zz t3) trivial trivial trivial fun h' hz hTI hTO h1 h2 h3 hsz hk => wpAny_pyIter_zip hz ?_
  have sep : ZipSep3 (s1.heap.objs.size + 5) (s1.heap.objs.size + 3) (s1.heap.objs.size + 4) s1.heap.objs.size (s1.heap.objs.size + 1) (s1.heap.objs.size + 2) [s1.heap.objs.size] [s1.heap.objs.size + 1] [s1.heap.objs.size + 2] := by
    constructor <;> simp <;> omega
  have fp : ∀ b ∈ ((s1.heap.objs.size + 5) :: (s1.heap.objs.size + 3) :: (s1.heap.objs.size + 4) :: ([s1.heap.objs.size] ++ [s1.heap.objs.size + 1] ++ [s1.heap.objs.size + 2])), FpOk X pins H1 b := fun b hb => by
    have hle : s1.heap.objs.size ≤ b := by
      simp only [List.mem_cons, List.mem_append, List.not_mem_nil, or_false] at hb
      omega
    exact I1.fpOk hle (I1.hok.fresh hle)
  refine ⟨s1.heap.objs.size + 5, _, _, _, H1, rfl, I1.kept (t' := s1.toks) hk, turn_walksT (f := fun i => [sgn x i, sgn y i, sgn zz i]) (fun A hA => WalksT.zipD3 sep (Draws.text hA s1.heap.objs.size x t1) (Draws.text hA (s1.heap.objs.size + 1) y t2) (Draws.text hA (s1.heap.objs.size + 2) zz t3)) (by simp) (fun i h st b hb => ?_) (fun i vals hp => ?_) (fun A i s Q E st hq => wpAny_pyIter_zip st.1 hq), ⟨Nat.zero_le _, hz, hTI, ⟨_, _, _, hTO⟩, ⟨_, h1, rfl, rfl⟩, ⟨_, h2, rfl, rfl⟩, ⟨_, h3, rfl, rfl⟩⟩, fp, q⟩
  · obtain ⟨g1, g2, ⟨a1, a2, a3, g3⟩, g4, g5, g6⟩ := st
    simp only [List.mem_cons, List.mem_append, List.not_mem_nil, or_false] at hb
    rcases hb with rfl | rfl | rfl | (rfl | rfl) | rfl
    · exact ⟨_, g1, fun v z => by cases z⟩
    · exact ⟨_, g2, fun v z => by cases z⟩
    · exact ⟨_, g3, fun v z => by cases z⟩
    · exact stri_ob g4
    · exact stri_ob g5
    · exact stri_ob g6
  · obtain ⟨x1, x2, x3, p1, p2, p3, rfl⟩ := hp
    exact ⟨.cons (sgn_rel p1) (.cons (sgn_rel p2) (.cons (sgn_rel p3) .nil)), by show 3 ≤ sizeLine; decide⟩
/-- as a walk -/
theorem walk_Z {n : Nat} {f : Nat → List V} : Walk (ItZ n f) n (fun _ => True) (fun i H v H' => ∃ T, v = .ref T ∧ H T = none ∧ H' = upd H T (.tup (f i))) := by
  refine ⟨fun i _ hi _ => hi, fun _ _ => Nat.le_refl _, fun i H v H' _ _ y => y⟩
end Ow
end
section
set_option maxHeartbeats 4000000
/-! list(zip(a, b)), a and b tuples. -/
namespace Ow
open PySem PySem.Spec PyProof.Rows L2
section
variable {prog : Program} {w : World} {A : Around} {E : Value → Shared → Prop} {s : Shared} {z TI TO i1 i2 : Addr} {fp1 fp2 : List Addr} {n1 n2 i : Nat} {P1 P2 : Nat → Value → Prop} {St1 St2 : Nat → Heap → Prop} {Q : Value → Shared → Prop}
/-- a zip whose last pair is kept by someone -/
def IsZipH (h : Heap) (z TI TO : Addr) (T : Addr) (b : Bool) : Prop := h.get? z = some { cls := .type "zip", data := .fields #[rawInt (T : Nat), .bool b, .bool false, .ref TI, .ref TO] }
theorem zip_notfree {T : Addr} {b : Bool} {oT : Obj} {K' : Bool → Shared → Prop} (hz : IsZipH s.heap z TI TO T b) (hT : s.heap.get? T = some oT) (k : ∀ h', IsZipH h' z TI TO T true → Heap.SameBut z s.heap h' → K' false { s with heap := h' }) :
    wpAny (model prog w) A (Builtin.SmallTypes.ownedTupleIsFree (.ref z)) K' E s := by
  obtain ⟨hp, g, d, tk0, os⟩ := s
  show wpAny _ _ (field (.ref z) 0 >>= _) _ _ _
  refine wpAny_bind (wpAny_field hz rfl rfl ?_)
  show wpAny _ _ (loadIfAlive T >>= _) _ _ _
  refine wpAny_bind (W.kdx_alive hT ?_)
  show wpAny _ _ (field (.ref z) 1 >>= _) _ _ _
  refine wpAny_bind (wpAny_field hz rfl rfl ?_)
  cases b with
  | true => exact wpAny_pure (k hp hz ⟨rfl, fun _ _ => rfl⟩)
  | false =>
    show wpAny _ _ (setField (.ref z) 1 (.bool true) >>= _) _ _ _
    exact wpAny_bind (wpAny_setField_rec hz (by show 1 < 5; decide) fun g0 hz0 hs0 => wpAny_pure (k g0 hz0 hs0))
theorem zip2_held (S : ZipSep2 z TI TO i1 i2 fp1 fp2) (D1 : Draws prog w A i1 fp1 n1 P1 St1) (D2 : Draws prog w A i2 fp2 n2 P2 St2) {T : Addr} {b : Bool} {oT : Obj} (hz : IsZipH s.heap z TI TO T b) (hT : s.heap.get? T = some oT) (hTI : IsTupOf2 s.heap TI (.ref i1) (.ref i2)) (st1 : St1 i s.heap) (st2 : St2 i s.heap) (lt1 : i < n1) (lt2 : i < n2)
    (hQ : ∀ (x1 x2 : Value) (h' : Heap) (tk : Nat), P1 i x1 → P2 i x2 → IsZipH h' z TI TO T true → St1 (i + 1) h' → St2 (i + 1) h' → IsTupOf2 h' s.heap.objs.size x1 x2 → h'.objs.size = s.heap.objs.size + 1 → (∀ (c : Addr) (o : Obj), c ≠ z → c ≠ i1 → c ≠ i2 → s.heap.get? c = some o → h'.get? c = some o) → Q (.ref s.heap.objs.size) { s with heap := h', toks := tk }) :
    wpAny (model prog w) A (Builtin.«zip.__next__» { pos := [Value.ref z] }) (fun fin s' => ∃ v, fin = Fin.done (Flow.ret v) ∧ Q v s') E s := by
  obtain ⟨hp, g, d, tk0, os⟩ := s
  show wpAny _ _ (field (.ref z) 2 >>= _) _ _ _
  refine wpAny_bind (wpAny_field hz rfl rfl ?_)
  refine wpAny_bind (wpAny_field hz rfl rfl ?_)
  refine wpAny_bind (wpAny_seqItems hTI rfl ?_)
  show wpAny _ _ (Builtin.SmallTypes.ownedTupleIsFree (.ref z) >>= _) _ _ _
  refine wpAny_bind (zip_notfree hz hT fun g0 hz0 hs0 => ?_)
  simp only [Bool.false_eq_true, if_false]
  refine wpAny_bind ?_
  rw [← Array.forIn_toList]
  simp only [List.forIn_cons, List.forIn_nil]
  refine wpAny_bind ?_
  refine wpAny_bind (wpAny_holding ?_)
  show wpAny _ _ (Builtin.SmallTypes.nextOf (.ref i1) >>= _) _ _ _
  refine wpAny_bind (D1.item i _ _ _ lt1 (D1.over st1 hs0 S.zf1) fun x1 p1 tk1 hx1 sn1 hp1 => ?_)
  refine wpAny_pure (wpAny_pure (wpAny_bind (wpAny_bind (wpAny_holding ?_))))
  show wpAny _ _ (Builtin.SmallTypes.nextOf (.ref i2) >>= _) _ _ _
  refine wpAny_bind (D2.item i _ _ _ lt2 (D2.over (D2.over st2 hs0 S.zf2) hp1 S.sep1_2) fun x2 p2 tk2 hx2 sn2 hp2 => ?_)
  refine wpAny_pure (wpAny_pure (wpAny_pure ?_))
  show wpAny _ _ (newTuple [x1, x2] >>= _) _ _ _
  refine wpAny_bind (wpAny_newTuple ?_ (by show 2 ≤ sizeLine; decide))
  have hsz : p2.objs.size = hp.objs.size := by rw [hp2.1, hp1.1, hs0.1]
  have zi1 : z ≠ i1 := fun e => S.zf1 (e ▸ S.mem1)
  have zi2 : z ≠ i2 := fun e => S.zf2 (e ▸ S.mem2)
  have hz2 : p2.get? z = some { cls := .type "zip", data := .fields #[rawInt (T : Nat), .bool true, .bool false, .ref TI, .ref TO] } := hp2.extBut z _ zi2 (hp1.extBut z _ zi1 hz0)
  have j1 := D1.over sn1 hp2 S.sep2_1
  refine wpAny_pure ⟨.ref p2.objs.size, rfl, ?_⟩
  have q := hQ x1 x2 (p2.push { cls := .type "tuple", data := .seq #[x1, x2] }) tk2 hx1 hx2 (Heap.get?_push_of_some _ hz2) (D1.frame (i + 1) p2 _ j1 fun b hb o e => Heap.get?_push_of_some _ e) (D2.frame (i + 1) p2 _ sn2 fun b hb o e => Heap.get?_push_of_some _ e)
    (by show (p2.push _).get? hp.objs.size = _; rw [← hsz]; exact Heap.get?_push_size _ rfl) (by rw [Heap.size_push, hsz]) (fun c o c0 c1 c2 e => Heap.get?_push_of_some _ (hp2.extBut c o c2 (hp1.extBut c o c1 (hs0.extBut c o c0 e))))
  rw [show (Value.ref p2.objs.size) = Value.ref hp.objs.size from by rw [hsz]]
  exact q
theorem zip2_held_end (S : ZipSep2 z TI TO i1 i2 fp1 fp2) (D1 : Draws prog w A i1 fp1 n1 P1 St1) {T : Addr} {b : Bool} {oT : Obj} {R : PySem.Fin → Shared → Prop} (hz : IsZipH s.heap z TI TO T b) (hT : s.heap.get? T = some oT) (hTI : IsTupOf2 s.heap TI (.ref i1) (.ref i2)) (st1 : St1 n1 s.heap)
    (hE : ∀ (h' : Heap) (e : Addr), (∀ (c : Addr) (o : Obj), c ≠ z → c ≠ i1 → s.heap.get? c = some o → h'.get? c = some o) → (∃ o, h'.get? e = some o ∧ o.cls = .type "StopIteration") → E (.ref e) { s with heap := h' }) :
    wpAny (model prog w) A (Builtin.«zip.__next__» { pos := [Value.ref z] }) R E s := by
  obtain ⟨hp, g, d, tk0, os⟩ := s
  show wpAny _ _ (field (.ref z) 2 >>= _) _ _ _
  refine wpAny_bind (wpAny_field hz rfl rfl ?_)
  refine wpAny_bind (wpAny_field hz rfl rfl ?_)
  refine wpAny_bind (wpAny_seqItems hTI rfl ?_)
  show wpAny _ _ (Builtin.SmallTypes.ownedTupleIsFree (.ref z) >>= _) _ _ _
  refine wpAny_bind (zip_notfree hz hT fun g0 hz0 hs0 => ?_)
  simp only [Bool.false_eq_true, if_false]
  refine wpAny_bind ?_
  rw [← Array.forIn_toList]
  simp only [List.forIn_cons, List.forIn_nil]
  refine wpAny_bind ?_
  refine wpAny_bind (wpAny_holding ?_)
  show wpAny _ _ (Builtin.SmallTypes.nextOf (.ref i1) >>= _) _ _ _
  exact wpAny_bind (D1.done _ _ _ (D1.over st1 hs0 S.zf1) fun h' e x h2 => hE h' e (fun c o c0 c1 q => x c o c1 (hs0.extBut c o c0 q)) h2)
end
section
variable {prog : Program} {w : World} {A : Around} {E : Value → Shared → Prop} {s : Shared} {z TI TO i1 i2 : Addr} {fp1 fp2 : List Addr} {n1 n2 i : Nat} {P1 P2 : Nat → Value → Prop} {St1 St2 : Nat → Heap → Prop} {Q : Option Value → Shared → Prop}
theorem pyNext_held (S : ZipSep2 z TI TO i1 i2 fp1 fp2) (D1 : Draws prog w A.in1 i1 fp1 n1 P1 St1) (D2 : Draws prog w A.in1 i2 fp2 n2 P2 St2) {T : Addr} {b : Bool} {oT : Obj} (hz : IsZipH s.heap z TI TO T b) (hT : s.heap.get? T = some oT) (hTI : IsTupOf2 s.heap TI (.ref i1) (.ref i2)) (st1 : St1 i s.heap) (st2 : St2 i s.heap) (lt1 : i < n1) (lt2 : i < n2)
    (hQ : ∀ (x1 x2 : Value) (h' : Heap) (tk : Nat), P1 i x1 → P2 i x2 → IsZipH h' z TI TO T true → St1 (i + 1) h' → St2 (i + 1) h' → IsTupOf2 h' s.heap.objs.size x1 x2 → h'.objs.size = s.heap.objs.size + 1 → (∀ (c : Addr) (o : Obj), c ≠ z → c ≠ i1 → c ≠ i2 → s.heap.get? c = some o → h'.get? c = some o) → Q (some (.ref s.heap.objs.size)) { s with heap := h', toks := tk }) :
    wpAny (model prog w) A (pyNext (.ref z)) Q E s := by
  have ty : s.TypeIs (.ref z) "zip" := ⟨_, hz, rfl⟩
  unfold pyNext
  refine wpAny_bind (wpAny_attempt (wpAny_callSpecial?_slot (name := Str.ofString "__next__") ty F.slot_zip_next (wpAny_call_entry F.slot_zip_next ty F.entry_zip_next ?_ (F.args_zip_next_1 _))))
  refine zip2_held S D1 D2 hz hT hTI st1 st2 lt1 lt2 fun x1 x2 h' tk p1 p2 z1 s1 s2 t1 t2 t3 => ?_
  exact wpAny_pure (hQ x1 x2 h' tk p1 p2 z1 s1 s2 t1 t2 t3)
theorem pyNext_held_end (hh : A.in1.handled = none) (S : ZipSep2 z TI TO i1 i2 fp1 fp2) (D1 : Draws prog w A.in1 i1 fp1 n1 P1 St1) {T : Addr} {b : Bool} {oT : Obj} (hz : IsZipH s.heap z TI TO T b) (hT : s.heap.get? T = some oT) (hTI : IsTupOf2 s.heap TI (.ref i1) (.ref i2)) (st1 : St1 n1 s.heap)
    (hQ : ∀ (h' : Heap), (∀ (c : Addr) (o : Obj), c ≠ z → c ≠ i1 → s.heap.get? c = some o → h'.get? c = some o) → Q none { s with heap := h' }) :
    wpAny (model prog w) A (pyNext (.ref z)) Q E s := by
  have ty : s.TypeIs (.ref z) "zip" := ⟨_, hz, rfl⟩
  unfold pyNext
  refine wpAny_bind (wpAny_attempt (wpAny_callSpecial?_slot (name := Str.ofString "__next__") ty F.slot_zip_next (wpAny_call_entry F.slot_zip_next ty F.entry_zip_next ?_ (F.args_zip_next_1 _))))
  refine zip2_held_end S D1 hz hT hTI st1 fun h' e x hc => ?_
  obtain ⟨o, ho, hc⟩ := hc
  exact wpAny_bind (wpAny_isInstance (T := "StopIteration") (b := true) ⟨o, ho, hc⟩ isSubtype_stop (wpAny_pure (hQ h' x)))
end
end Ow
end
section
set_option maxHeartbeats 4000000
namespace Ow
open PySem PySem.Spec PyProof.Rows L2
section
variable {prog : Program} {w : World} {A : Around} {z TI TO i1 i2 t1 t2 : Addr} {xs ys : Array Value}
/-- a list at S that is being filled with the pairs of a zip: so far those at Ts -/
structure Fill (h0 : Heap) (z TI TO i1 i2 t1 t2 S : Addr) (xs ys : Array Value) (i : Nat) (Ts : List Addr) (h : Heap) : Prop where
  len : Ts.length = i
  lst : ∃ c, h.get? S = some { cls := .type "list", data := .seq (Ts.map Value.ref).toArray c }
  zip : (i = 0 ∧ IsZip h z TI TO .none ∧ ∃ a1 a2, IsTupOf2 h TO a1 a2) ∨ ∃ T b, T ∈ Ts ∧ IsZipH h z TI TO T b
  ti : IsTupOf2 h TI (.ref i1) (.ref i2)
  s1 : h.IsTupleIter i1 t1 i ∧ h.IsTuple t1 xs
  s2 : h.IsTupleIter i2 t2 i ∧ h.IsTuple t2 ys
  at_ : ∀ (j : Nat) (T : Addr), Ts[j]? = some T → ∃ x y, xs[j]? = some x ∧ ys[j]? = some y ∧ IsTupOf2 h T x y
  new : ∀ T ∈ Ts, h0.objs.size ≤ T
  nd : Ts.Nodup
  keep : ∀ b o, h0.get? b = some o → b ≠ z → b ≠ TO → b ≠ i1 → b ≠ i2 → b ≠ S → h.get? b = some o
  size : h0.objs.size ≤ h.objs.size
  lt : ∀ T ∈ Ts, T < h.objs.size
/-- the list is full -/
structure Filled (h0 : Heap) (z TO i1 i2 S : Addr) (xs ys : Array Value) (n : Nat) (Ts : List Addr) (h : Heap) : Prop where
  len : Ts.length = n
  lst : ∃ c, h.get? S = some { cls := .type "list", data := .seq (Ts.map Value.ref).toArray c }
  at_ : ∀ (j : Nat) (T : Addr), Ts[j]? = some T → ∃ x y, xs[j]? = some x ∧ ys[j]? = some y ∧ IsTupOf2 h T x y
  new : ∀ T ∈ Ts, h0.objs.size ≤ T
  nd : Ts.Nodup
  keep : ∀ b o, h0.get? b = some o → b ≠ z → b ≠ TO → b ≠ i1 → b ≠ i2 → b ≠ S → h.get? b = some o
/-- how the parts of a zip stand to each other and to the list -/
structure Parts (h0 : Heap) (z TI TO i1 i2 t1 t2 S : Addr) : Prop where
  sep : ZipSep2 z TI TO i1 i2 [i1, t1] [i2, t2]
  n1 : t1 ≠ i1
  n2 : t2 ≠ i2
  sz : z ≠ S ∧ TI ≠ S ∧ TO ≠ S ∧ i1 ≠ S ∧ i2 ≠ S ∧ t1 ≠ S ∧ t2 ≠ S
  old : z < h0.objs.size ∧ TI < h0.objs.size ∧ TO < h0.objs.size ∧ i1 < h0.objs.size ∧ i2 < h0.objs.size ∧ S < h0.objs.size
theorem Fill.step {h0 h h' : Heap} {S : Addr} {i T : Nat} {Ts : List Addr} {x y : Value} {c : Nat} (J : Fill h0 z TI TO i1 i2 t1 t2 S xs ys i Ts h) (Pt : Parts h0 z TI TO i1 i2 t1 t2 S)
    (hx : xs[i]? = some x) (hy : ys[i]? = some y) (hT : T = h.objs.size) (hz : ∃ T0 b, T0 ∈ Ts ++ [T] ∧ IsZipH h' z TI TO T0 b) (s1 : h'.IsTupleIter i1 t1 (i + 1) ∧ h'.IsTuple t1 xs) (s2 : h'.IsTupleIter i2 t2 (i + 1) ∧ h'.IsTuple t2 ys)
    (ht : IsTupOf2 h' T x y) (hs : h'.objs.size = h.objs.size + 1) (hk : ∀ (c : Addr) (o : Obj), c ≠ z → c ≠ TO → c ≠ i1 → c ≠ i2 → c ≠ S → h.get? c = some o → h'.get? c = some o)
    (hl : h'.get? S = some { cls := .type "list", data := .seq ((Ts ++ [T]).map Value.ref).toArray c }) :
    Fill h0 z TI TO i1 i2 t1 t2 S xs ys (i + 1) (Ts ++ [T]) h' := by
  obtain ⟨o1, o2, o3, o4, o5, o6⟩ := Pt.old
  have big : ∀ T0 ∈ Ts, T0 ≠ z ∧ T0 ≠ TO ∧ T0 ≠ i1 ∧ T0 ≠ i2 ∧ T0 ≠ S := fun T0 hm => by
    have := J.new T0 hm
    exact ⟨Nat.ne_of_gt (Nat.lt_of_lt_of_le o1 this), Nat.ne_of_gt (Nat.lt_of_lt_of_le o3 this), Nat.ne_of_gt (Nat.lt_of_lt_of_le o4 this), Nat.ne_of_gt (Nat.lt_of_lt_of_le o5 this), Nat.ne_of_gt (Nat.lt_of_lt_of_le o6 this)⟩
  refine ⟨by rw [List.length_append, J.len]; rfl, ⟨c, hl⟩, .inr hz, ?_, s1, s2, fun j T0 hj => ?_, fun T0 hm => ?_, ?_, fun b o e a1 a2 a3 a4 a5 => hk b o a1 a2 a3 a4 a5 (J.keep b o e a1 a2 a3 a4 a5), by have := J.size; omega, fun T0 hm => ?_⟩
  · exact hk TI _ Pt.sep.TIz Pt.sep.TITO Pt.sep.TIi1 Pt.sep.TIi2 Pt.sz.2.1 J.ti
  · by_cases hlt : j < Ts.length
    · rw [List.getElem?_append_left hlt] at hj
      obtain ⟨x0, y0, e1, e2, e3⟩ := J.at_ j T0 hj
      obtain ⟨b1, b2, b3, b4, b5⟩ := big T0 (List.mem_of_getElem? hj)
      exact ⟨x0, y0, e1, e2, hk T0 _ b1 b2 b3 b4 b5 e3⟩
    · rw [List.getElem?_append_right (by omega)] at hj
      have hj0 : j - Ts.length = 0 := by
        by_cases q : j - Ts.length = 0
        · exact q
        · rw [List.getElem?_eq_none (by simp; omega)] at hj
          cases hj
      rw [hj0] at hj
      cases hj
      have e : j = i := by have := J.len; omega
      subst e
      exact ⟨x, y, hx, hy, ht⟩
  · rcases List.mem_append.mp hm with h1 | h1
    · exact J.new T0 h1
    · rw [List.mem_singleton.mp h1, hT]
      exact J.size
  · refine List.nodup_append.mpr ⟨J.nd, by simp, fun a ha b hb e => ?_⟩
    rw [List.mem_singleton.mp hb, hT] at e
    exact absurd e (Nat.ne_of_lt (J.lt a ha))
  · rcases List.mem_append.mp hm with h1 | h1
    · exact Nat.lt_of_lt_of_le (J.lt T0 h1) (by rw [hs]; exact Nat.le_succ _)
    · rw [List.mem_singleton.mp h1, hT, hs]
      exact Nat.lt_succ_self _
/-- the loop that fills the list -/
theorem extend_zip {R : Result → Shared → Prop} {h0 : Heap} {S : Addr} {res : Value} {n : Nat} (hh : A.handled = none) (Pt : Parts h0 z TI TO i1 i2 t1 t2 S) (n1 : xs.size = n) (n2 : ys.size = n) (n0 : 0 < n) (hn : n ≤ sizeLine) (g : Array GenState) (d : Drawn) (os : OsState)
    (hR : ∀ (Ts : List Addr) (h' : Heap) (tk : Nat), Filled h0 z TO i1 i2 S xs ys n Ts h' → R (.ok (.ret res)) { heap := h', gens := g, drawn := d, toks := tk, os := os }) :
    ∀ (k i : Nat) (h : Heap) (tk : Nat) (Ts : List Addr), n - i = k → i ≤ n → Fill h0 z TI TO i1 i2 t1 t2 S xs ys i Ts h → codeAny (model prog w) A (.builtin "list.extend.loop" ⟨[.ref S, .ref z, res], []⟩) R { heap := h, gens := g, drawn := d, toks := tk, os := os }
  | 0, i, h, tk, Ts, hk, hi, J => by
    have e : i = n := by omega
    subst e
    obtain ⟨T0, b, hm, hz⟩ : ∃ T b, T ∈ Ts ∧ IsZipH h z TI TO T b := by
      rcases J.zip with ⟨q, _⟩ | q
      · omega
      · exact q
    obtain ⟨j, hj⟩ := List.getElem?_of_mem hm
    obtain ⟨x0, y0, _, _, e3⟩ := J.at_ j T0 hj
    have D1 := Draws.tuple (prog := prog) (w := w) (A := A.in1.in1) hh i1 t1 Pt.n1 xs
    have D2 := Draws.tuple (prog := prog) (w := w) (A := A.in1.in1) hh i2 t2 Pt.n2 ys
    obtain ⟨c, hS⟩ := J.lst
    refine codeAny_builtin F.entry_extend_loop ?_
    rw [Around.under_plainId F.plain_extend_loop _]
    show wpAny _ _ (pyNext (.ref z) >>= _) _ _ _
    refine wpAny_bind (pyNext_held_end (s := { heap := h, gens := g, drawn := d, toks := tk, os := os }) hh Pt.sep D1 hz e3 J.ti (by rw [n1]; exact J.s1) fun h' x => ?_)
    have keepAll : ∀ b o, h.get? b = some o → b ≠ z → b ≠ i1 → h'.get? b = some o := fun b o e a1 a2 => x b o a1 a2 e
    refine wpAny_pure (hR Ts h' tk ?_)
    obtain ⟨o1, o2, o3, o4, o5, o6⟩ := Pt.old
    refine ⟨J.len, ⟨c, keepAll S _ hS (Ne.symm Pt.sz.1) (Ne.symm Pt.sz.2.2.2.1)⟩, fun j T hj => ?_, J.new, J.nd, fun b o e a1 a2 a3 a4 a5 => keepAll b o (J.keep b o e a1 a2 a3 a4 a5) a1 a3⟩
    obtain ⟨x1, y1, q1, q2, q3⟩ := J.at_ j T hj
    have := J.new T (List.mem_of_getElem? hj)
    exact ⟨x1, y1, q1, q2, keepAll T _ q3 (Nat.ne_of_gt (Nat.lt_of_lt_of_le o1 this)) (Nat.ne_of_gt (Nat.lt_of_lt_of_le o4 this))⟩
  | k + 1, i, h, tk, Ts, hk, hi, J => by
    have hlt : i < n := by omega
    obtain ⟨c, hS⟩ := J.lst
    refine codeAny_builtin F.entry_extend_loop ?_
    rw [Around.under_plainId F.plain_extend_loop _]
    show wpAny _ _ (pyNext (.ref z) >>= _) _ _ _
    have D1 := Draws.tuple (prog := prog) (w := w) (A := A.in1.in1) hh i1 t1 Pt.n1 xs
    have D2 := Draws.tuple (prog := prog) (w := w) (A := A.in1.in1) hh i2 t2 Pt.n2 ys
    have next : ∀ (x1 x2 : Value) (h' : Heap) (tk' : Nat), xs[i]? = some x1 → ys[i]? = some x2 → (∃ T0 b, T0 ∈ Ts ++ [h.objs.size] ∧ IsZipH h' z TI TO T0 b) → (h'.IsTupleIter i1 t1 (i + 1) ∧ h'.IsTuple t1 xs) → (h'.IsTupleIter i2 t2 (i + 1) ∧ h'.IsTuple t2 ys) → IsTupOf2 h' h.objs.size x1 x2 → h'.objs.size = h.objs.size + 1 →
        (∀ (c : Addr) (o : Obj), c ≠ z → c ≠ TO → c ≠ i1 → c ≠ i2 → h.get? c = some o → h'.get? c = some o) →
        wpAny (model prog w) A.in1 (do
          Builtin.List.listUpdate (.ref S) fun x_1 => x_1.push (.ref h.objs.size)
          again (Code.builtin "list.extend.loop" ⟨[.ref S, .ref z, res], []⟩)) (fun fin s' => match fin with
          | Fin.done f => R (.ok f) s'
          | Fin.again c' => c'.quiet = true ∧ codeAny (model prog w) A c' R s') (fun e s' => R (.error e) s') { heap := h', gens := g, drawn := d, toks := tk', os := os } := by
      intro x1 x2 h' tk' p1 p2 hz s1 s2 ht hs hk
      have hS' := hk S _ (Ne.symm Pt.sz.1) (Ne.symm Pt.sz.2.2.1) (Ne.symm Pt.sz.2.2.2.1) (Ne.symm Pt.sz.2.2.2.2.1) hS
      refine wpAny_bind (wpAny_updateSeq hS' rfl (wpAny_pure ⟨plainId_quiet F.plain_extend_loop _, ?_⟩) ?_ ?_)
      · have up := fun (b : Addr) (o : Obj) (hb : b ≠ S) (e : h'.get? b = some o) => (Heap.get?_update_other h' (Obj.mapSeq fun x => x.push (.ref h.objs.size)) (Ne.symm hb)).trans e
        refine extend_zip hh Pt n1 n2 n0 hn g d os hR k (i + 1) _ tk' (Ts ++ [h.objs.size]) (by omega) hlt ?_
        have st1 := D1.frame (i + 1) h' (h'.update S (Obj.mapSeq fun x => x.push (.ref h.objs.size))) s1 fun b hb o e => up b o (by
          rcases List.mem_cons.mp hb with rfl | hb
          · exact Pt.sz.2.2.2.1
          · rw [List.mem_singleton.mp hb]; exact Pt.sz.2.2.2.2.2.1) e
        have st2 := D2.frame (i + 1) h' (h'.update S (Obj.mapSeq fun x => x.push (.ref h.objs.size))) s2 fun b hb o e => up b o (by
          rcases List.mem_cons.mp hb with rfl | hb
          · exact Pt.sz.2.2.2.2.1
          · rw [List.mem_singleton.mp hb]; exact Pt.sz.2.2.2.2.2.2) e
        obtain ⟨T0, b, hm, hz⟩ := hz
        have nS : h.objs.size ≠ S := Nat.ne_of_gt (Nat.lt_of_lt_of_le Pt.old.2.2.2.2.2 J.size)
        have hl := Heap.get?_update_self (Obj.mapSeq fun x => x.push (.ref h.objs.size)) hS' rfl
        refine J.step (c := c + 1) Pt p1 p2 rfl ⟨T0, b, hm, up z _ Pt.sz.1 hz⟩ st1 st2 (up _ _ nS ht) (by rw [Heap.size_update]; exact hs) (fun c o c0 c1 c2 c3 c4 e => up c o c4 (hk c o c0 c1 c2 c3 e)) (hl.trans ?_)
        unfold Obj.mapSeq
        simp
      · rw [List.size_toArray, List.length_map, J.len]
        exact Nat.le_trans hi hn
      · rw [Array.size_push, List.size_toArray, List.length_map, J.len]
        exact Nat.succ_le_succ (Nat.le_trans hi hn)
    rcases J.zip with ⟨rfl, hz, a1, a2, hTO⟩ | ⟨T0, b, hm, hz⟩
    · refine wpAny_bind (wpAny_pyNext_zipD2_item (s := { heap := h, gens := g, drawn := d, toks := tk, os := os }) Pt.sep D1 D2 hz J.ti hTO J.s1 J.s2 (by omega) (by omega) fun x1 x2 h' tk' p1 p2 z1 t1' s1 s2 ht hs hk => ?_)
      exact next x1 x2 h' tk' p1 p2 ⟨h.objs.size, false, List.mem_append.mpr (.inr (List.mem_singleton.mpr rfl)), z1⟩ s1 s2 ht hs hk
    · obtain ⟨j, hj⟩ := List.getElem?_of_mem hm
      obtain ⟨x0, y0, _, _, e3⟩ := J.at_ j T0 hj
      refine wpAny_bind (pyNext_held (s := { heap := h, gens := g, drawn := d, toks := tk, os := os }) Pt.sep D1 D2 hz e3 J.ti J.s1 J.s2 (by omega) (by omega) fun x1 x2 h' tk' p1 p2 z1 s1 s2 ht hs hk => ?_)
      exact next x1 x2 h' tk' p1 p2 ⟨T0, true, List.mem_append.mpr (.inl hm), z1⟩ s1 s2 ht hs fun c o c0 c1 c2 c3 e => hk c o c0 c2 c3 e
end
end Ow
end
section
set_option maxHeartbeats 4000000
namespace Ow
open PySem PySem.Spec PyProof.Rows L2
theorem zip_no_len : typeLookup (Value.type "zip") (Str.ofString "__len__") = pure none := by with_unfolding_all rfl
theorem zip_no_hint : typeLookup (Value.type "zip") (Str.ofString "__length_hint__") = pure none := by with_unfolding_all rfl
section
variable {prog : Program} {w : World} {A : Around} {z TI TO i1 i2 t1 t2 : Addr} {xs ys : Array Value}
theorem extendWith_zip {R : Result → Shared → Prop} {h0 : Heap} {S : Addr} {res : Value} {n : Nat} (hh : A.handled = none) (Pt : Parts h0 z TI TO i1 i2 t1 t2 S) (n1 : xs.size = n) (n2 : ys.size = n) (n0 : 0 < n) (hn : n ≤ sizeLine) (g : Array GenState) (d : Drawn) (os : OsState)
    (hR : ∀ (Ts : List Addr) (h' : Heap) (tk : Nat), Filled h0 z TO i1 i2 S xs ys n Ts h' → R (.ok (.ret res)) { heap := h', gens := g, drawn := d, toks := tk, os := os }) (h : Heap) (tk : Nat) (J : Fill h0 z TI TO i1 i2 t1 t2 S xs ys 0 [] h) :
    wpAny (model prog w) A.in1 (Builtin.List.listExtendWith (.ref S) (.ref z) res) (fun fin s' => match fin with
      | Fin.done f => R (.ok f) s'
      | Fin.again c' => c'.quiet = true ∧ codeAny (model prog w) A c' R s') (fun e s' => R (.error e) s') { heap := h, gens := g, drawn := d, toks := tk, os := os } := by
  have hz : IsZip h z TI TO .none := by
    rcases J.zip with ⟨_, q, _⟩ | ⟨T, b, hm, _⟩
    · exact q
    · cases hm
  have ty : ({ heap := h, gens := g, drawn := d, toks := tk, os := os } : Shared).TypeIs (.ref z) "zip" := ⟨_, hz, rfl⟩
  unfold Builtin.List.listExtendWith
  refine wpAny_bind (wpAny_typeOf ty ?_)
  have e1 : (Builtin.List.listSameRef (.ref S) (.ref z) || Value.type "zip" == Value.type "list" || Value.type "zip" == Value.type "tuple") = false := by
    have q : Builtin.List.listSameRef (.ref S) (.ref z) = false := by
      show (S == z) = false
      exact beq_false_of_ne (Ne.symm Pt.sz.1)
    rw [q]
    decide
  rw [if_neg (by rw [e1]; exact Bool.false_ne_true)]
  refine wpAny_bind (wpAny_pyIter_zip hz ?_)
  refine wpAny_bind (wpAny_holding ?_)
  show wpAny _ _ (specialOf (.ref z) (Str.ofString "__len__") >>= _) _ _ _
  refine wpAny_bind (wpAny_specialOf ty zip_no_len ?_)
  show wpAny _ _ (specialOf (.ref z) (Str.ofString "__length_hint__") >>= _) _ _ _
  refine wpAny_bind (wpAny_specialOf ty zip_no_hint (wpAny_pure ?_))
  rw [if_pos (by rfl)]
  refine wpAny_bind (wpAny_rule (wpAny_bind ?_))
  obtain ⟨c, hS⟩ := J.lst
  show wpAny _ _ (updateSeq S (fun x => x.push .none) >>= fun _ => updateSeq S (fun x => x.pop)) _ _ _
  have hS2 := Heap.get?_update_self (Obj.mapSeq fun x => x.push .none) hS rfl
  refine wpAny_bind (wpAny_updateSeq hS rfl ?_ (by show 0 ≤ sizeLine; decide) (by show 1 ≤ sizeLine + 1; decide))
  refine wpAny_updateSeq hS2 rfl ?_ (by show 1 ≤ sizeLine; decide) (by show 0 ≤ sizeLine + 1; decide)
  have hS3 := Heap.get?_update_self (Obj.mapSeq fun x => x.pop) hS2 rfl
  have up : ∀ (b : Addr) (o : Obj), b ≠ S → h.get? b = some o → ((h.update S (Obj.mapSeq fun x => x.push .none)).update S (Obj.mapSeq fun x => x.pop)).get? b = some o := fun b o hb e =>
    (Heap.get?_update_other _ _ (Ne.symm hb)).trans ((Heap.get?_update_other h _ (Ne.symm hb)).trans e)
  have D1 := Draws.tuple (prog := prog) (w := w) (A := A.in1.in1) hh i1 t1 Pt.n1 xs
  have D2 := Draws.tuple (prog := prog) (w := w) (A := A.in1.in1) hh i2 t2 Pt.n2 ys
  obtain ⟨a1, a2, hTO⟩ : ∃ a1 a2, IsTupOf2 h TO a1 a2 := by
    rcases J.zip with ⟨_, _, q⟩ | ⟨T, b, hm, _⟩
    · exact q
    · cases hm
  have J2 : Fill h0 z TI TO i1 i2 t1 t2 S xs ys 0 [] ((h.update S (Obj.mapSeq fun x => x.push .none)).update S (Obj.mapSeq fun x => x.pop)) :=
    { len := rfl
      lst := ⟨_, hS3⟩
      zip := .inl ⟨rfl, up z _ Pt.sz.1 hz, a1, a2, up TO _ Pt.sz.2.2.1 hTO⟩
      ti := up TI _ Pt.sz.2.1 J.ti
      s1 := D1.frame 0 h _ J.s1 fun b hb o e => up b o (by
          rcases List.mem_cons.mp hb with rfl | hb
          · exact Pt.sz.2.2.2.1
          · rw [List.mem_singleton.mp hb]; exact Pt.sz.2.2.2.2.2.1) e
      s2 := D2.frame 0 h _ J.s2 fun b hb o e => up b o (by
          rcases List.mem_cons.mp hb with rfl | hb
          · exact Pt.sz.2.2.2.2.1
          · rw [List.mem_singleton.mp hb]; exact Pt.sz.2.2.2.2.2.2) e
      at_ := fun j T hj => by cases hj
      new := fun T hm => by cases hm
      nd := .nil
      keep := fun b o e b1 b2 b3 b4 b5 => up b o b5 (J.keep b o e b1 b2 b3 b4 b5)
      size := by rw [Heap.size_update, Heap.size_update]; exact J.size
      lt := fun T hm => by cases hm }
  exact wpAny_pure ⟨plainId_quiet F.plain_extend_loop _, extend_zip hh Pt n1 n2 n0 hn g d os hR n 0 _ tk [] (by omega) (Nat.zero_le _) J2⟩
/-- list(z), z a zip of two tuples of one length that has not begun -/
theorem call_list_zip {E : Value → Shared → Prop} {Q : Value → Shared → Prop} {s : Shared} {n : Nat} {a1 a2 : Value} (hh : A.handled = none) (sep : ZipSep2 z TI TO i1 i2 [i1, t1] [i2, t2]) (m1 : t1 ≠ i1) (m2 : t2 ≠ i2) (n1 : xs.size = n) (n2 : ys.size = n) (n0 : 0 < n) (hn : n ≤ sizeLine)
    (hz : IsZip s.heap z TI TO .none) (hTI : IsTupOf2 s.heap TI (.ref i1) (.ref i2)) (hTO : IsTupOf2 s.heap TO a1 a2) (s1 : s.heap.IsTupleIter i1 t1 0 ∧ s.heap.IsTuple t1 xs) (s2 : s.heap.IsTupleIter i2 t2 0 ∧ s.heap.IsTuple t2 ys)
    (hQ : ∀ (Ts : List Addr) (h' : Heap) (tk : Nat), Filled (s.heap.push { cls := .type "list", data := .seq #[] }) z TO i1 i2 s.heap.objs.size xs ys n Ts h' → Q (.ref s.heap.objs.size) { s with heap := h', toks := tk }) :
    wpAny (model prog w) A (call (.type "list") [.ref z]) Q E s := by
  obtain ⟨hp, g, d, tk, os⟩ := s
  refine callType_codes (Q₁ := fun obj s1 => obj = .ref hp.objs.size ∧ s1 = { heap := hp.push { cls := .type "list", data := .seq #[] }, gens := g, drawn := d, toks := tk, os := os }) F.called_list (F.typeCall_list_1 (.ref z)) F.entry_list_init (code_list_new (.ref z) ⟨rfl, rfl⟩) fun obj s₁ h₁ => ?_
  obtain ⟨rfl, rfl⟩ := h₁
  have hS := Heap.get?_push_size hp (o := { cls := .type "list", data := .seq #[] }) rfl
  refine ⟨⟨_, hS, rfl⟩, F.args_list_init_2 _ _, ?_⟩
  show wpAny _ _ (Builtin.List.listItems (.ref hp.objs.size) >>= _) _ _ _
  refine wpAny_bind ?_
  show wpAny _ _ (seqItems? (.ref hp.objs.size) >>= _) _ _ _
  refine wpAny_bind (wpAny_seqItems hS rfl (wpAny_pure ?_))
  refine wpAny_bind (wpAny_updateSeq hS rfl ?_ (by show 0 ≤ sizeLine; decide) (by show 0 ≤ sizeLine + 1; decide))
  refine wpAny_bind (wpAny_letGo ?_)
  have l1 : z < hp.objs.size := Heap.lt_size hz
  have l2 : TI < hp.objs.size := Heap.lt_size hTI
  have l3 : TO < hp.objs.size := Heap.lt_size hTO
  have l4 : i1 < hp.objs.size := by obtain ⟨⟨o, q, _⟩, _⟩ := s1; exact Heap.lt_size q
  have l5 : i2 < hp.objs.size := by obtain ⟨⟨o, q, _⟩, _⟩ := s2; exact Heap.lt_size q
  have l6 : t1 < hp.objs.size := by obtain ⟨_, o, q, _⟩ := s1; exact Heap.lt_size q
  have l7 : t2 < hp.objs.size := by obtain ⟨_, o, q, _⟩ := s2; exact Heap.lt_size q
  have sp : (hp.push { cls := .type "list", data := .seq #[] }).objs.size = hp.objs.size + 1 := Heap.size_push ..
  have Pt : Parts (hp.push { cls := .type "list", data := .seq #[] }) z TI TO i1 i2 t1 t2 hp.objs.size :=
    ⟨sep, m1, m2, ⟨Nat.ne_of_lt l1, Nat.ne_of_lt l2, Nat.ne_of_lt l3, Nat.ne_of_lt l4, Nat.ne_of_lt l5, Nat.ne_of_lt l6, Nat.ne_of_lt l7⟩, by
      rw [sp]
      exact ⟨Nat.lt_succ_of_lt l1, Nat.lt_succ_of_lt l2, Nat.lt_succ_of_lt l3, Nat.lt_succ_of_lt l4, Nat.lt_succ_of_lt l5, Nat.lt_succ_self _⟩⟩
  have up : ∀ (b : Addr) (o : Obj), b ≠ hp.objs.size → hp.get? b = some o → ((hp.push { cls := .type "list", data := .seq #[] }).update hp.objs.size (Obj.mapSeq fun x => #[])).get? b = some o := fun b o hb e =>
    (Heap.get?_update_other _ _ (Ne.symm hb)).trans (Heap.get?_push_of_some _ e)
  have D1 := Draws.tuple (prog := prog) (w := w) (A := A.in1.in1) hh i1 t1 m1 xs
  have D2 := Draws.tuple (prog := prog) (w := w) (A := A.in1.in1) hh i2 t2 m2 ys
  have hS2 := Heap.get?_update_self (Obj.mapSeq fun x => #[]) hS rfl
  have J : Fill (hp.push { cls := .type "list", data := .seq #[] }) z TI TO i1 i2 t1 t2 hp.objs.size xs ys 0 [] ((hp.push { cls := .type "list", data := .seq #[] }).update hp.objs.size (Obj.mapSeq fun x => #[])) :=
    { len := rfl
      lst := ⟨_, hS2⟩
      zip := .inl ⟨rfl, up z _ (Nat.ne_of_lt l1) hz, a1, a2, up TO _ (Nat.ne_of_lt l3) hTO⟩
      ti := up TI _ (Nat.ne_of_lt l2) hTI
      s1 := D1.frame 0 hp _ s1 fun b hb o e => up b o (by
          rcases List.mem_cons.mp hb with rfl | hb
          · exact Nat.ne_of_lt l4
          · rw [List.mem_singleton.mp hb]; exact Nat.ne_of_lt l6) e
      s2 := D2.frame 0 hp _ s2 fun b hb o e => up b o (by
          rcases List.mem_cons.mp hb with rfl | hb
          · exact Nat.ne_of_lt l5
          · rw [List.mem_singleton.mp hb]; exact Nat.ne_of_lt l7) e
      at_ := fun j T hj => by cases hj
      new := fun T hm => by cases hm
      nd := .nil
      keep := fun b o e b1 b2 b3 b4 b5 => (Heap.get?_update_other _ _ (Ne.symm b5)).trans e
      size := by rw [Heap.size_update]; exact Nat.le_refl _
      lt := fun T hm => by cases hm }
  exact extendWith_zip (A := A.in1) hh Pt n1 n2 n0 hn g d os (fun Ts h' tk' q => ⟨rfl, hQ Ts h' tk' q⟩) _ tk J
end
end Ow
end
section
set_option maxHeartbeats 4000000
namespace Ow
open PySem PySem.Spec PyProof.Rows L2
/-- tuples of two laid at addresses -/
def layT (f : Nat → List V) : List Addr → Nat → Hp → Hp
  | [], _, H => H
  | T :: r, i, H => layT f r (i + 1) (upd H T (.tup (f i)))
theorem layT_else (f : Nat → List V) : ∀ (Ts : List Addr) (i : Nat) (H : Hp) (b : Addr), b ∉ Ts → layT f Ts i H b = H b
  | [], _, _, _, _ => rfl
  | T :: r, i, H, b, h => by
    have h1 : b ≠ T := fun e => h (by rw [e]; exact List.mem_cons_self)
    have h2 : b ∉ r := fun e => h (List.mem_cons_of_mem _ e)
    show layT f r (i + 1) (upd H T (.tup (f i))) b = H b
    rw [layT_else f r (i + 1) _ b h2, upd_ne h1]
theorem layT_at (f : Nat → List V) : ∀ (Ts : List Addr) (i : Nat) (H : Hp) (j : Nat) (T : Addr), Ts.Nodup → Ts[j]? = some T → layT f Ts i H T = some (.tup (f (i + j)))
  | [], _, _, _, _, _, h => by cases h
  | T0 :: r, i, H, 0, T, nd, h => by
    have e : T0 = T := by simpa using h
    rw [← e]
    show layT f r (i + 1) (upd H T0 (.tup (f i))) T0 = _
    rw [layT_else f r (i + 1) _ T0 (List.nodup_cons.mp nd).1, upd_same]
    rfl
  | T0 :: r, i, H, j + 1, T, nd, h => by
    show layT f r (i + 1) (upd H T0 (.tup (f i))) T = _
    rw [layT_at f r (i + 1) _ j T (List.nodup_cons.mp nd).2 (by simpa using h)]
    have e : i + 1 + j = i + (j + 1) := by omega
    rw [e]
theorem hok_layT {P : Program} {w : World} {h : Heap} (f : Nat → List V) : ∀ (Ts : List Addr) (i : Nat) (H : Hp), HOk P w H h → Ts.Nodup → (∀ T ∈ Ts, H T = none) → (∀ (j : Nat) (T : Addr), Ts[j]? = some T → ∀ H', ObjOk P w H' h T (.tup (f (i + j)))) → HOk P w (layT f Ts i H) h
  | [], _, _, k, _, _, _ => k
  | T :: r, i, H, k, nd, hn, ho => by
    obtain ⟨n1, n2⟩ := List.nodup_cons.mp nd
    refine hok_layT f r (i + 1) _ (HOk.laidN k (fun _ _ e => e) (hn T List.mem_cons_self) (ho 0 T rfl _)) n2 (fun T' hT' => ?_) fun j T' hj H' => ?_
    · rw [upd_ne (fun e => n1 (by rw [← e]; exact hT'))]
      exact hn T' (List.mem_cons_of_mem _ hT')
    · have := ho (j + 1) T' (by simpa using hj) H'
      have e : i + 1 + j = i + (j + 1) := by omega
      rw [e]
      exact this
theorem vals_refs : ∀ Ts : List Addr, Vals (Ts.map V.ref) (Ts.map Value.ref)
  | [] => .nil
  | T :: r => .cons rfl (vals_refs r)
/-- behind list(zip(a, b)) -/
structure Zipped (H H' : Hp) (S : Addr) (xs ys : List V) : Prop where
  same : Same H H'
  new : H S = none
  at_ : ∃ Ts : List Addr, H' S = some (.lst (Ts.map V.ref)) ∧ Ts.length = xs.length ∧ ∀ (j : Nat) (T : Addr), Ts[j]? = some T → ∃ x y, xs[j]? = some x ∧ ys[j]? = some y ∧ H' T = some (.tup [x, y])
def tListZip (K : PySem.W.Frag) (ta : TA) : TE := fun σ H Q => ta σ H fun vs H1 => ∃ a b xs ys, vs = [.ref a, .ref b] ∧ SqT K H1 a xs ∧ SqT K H1 b ys ∧ xs.length = ys.length ∧ 0 < xs.length ∧ ∀ S H', Zipped H1 H' S xs ys → Q (.ref S) H'
theorem pe_listzip {X : Cx} {e e2 : Expr} {ta : TA} {p p2 pos pos2 : Pos} (hc : X.calm = true) (hgl : Gl X "list") (hml : X.mg "list" = none) (hg : Gl X "zip") (hm : X.mg "zip" = none) (ha : PA X [e, e2] ta)
    (hs : starEach [e, e2] X.env = [(false, eval e X.env), (false, eval e2 X.env)] := by rfl) (hs2 : starEach [e2] X.env = [(false, eval e2 X.env)] := by rfl) :
    PE X (.Call (.Name "list" p) [.Call (.Name "zip" p2) [e, e2] [] pos2] [] pos) (tListZip X.K ta) := by
  refine ⟨fun pins s σ H Q I h => ?_⟩
  refine Call_ (ld_blt I hgl hml boot_list (PyProof.Rows.callWith_type1 ?_ (by rfl) (by rfl)))
  show wpAny _ _ (spliced ((false, eval (.Call (.Name "zip" p2) [e, e2] [] pos2) X.env) :: [])) _ _ _
  refine Calls.spliced_cons ?_
  refine Call_ (ld_blt I hg hm boot_zip (PyProof.Rows.callWith_type1 (thn (ha.run pos2 pins s σ H _ I h) fun us s1 ⟨vs, H1, I1, r1, a, b, xs, ys, ex, hq1, hq2, hl, h0, q⟩ => ?_) (by rw [hs, hs2]) (by rw [hs2]; rfl)))
  subst ex
  obtain ⟨u, u2, rfl, ru, ru2⟩ := vals2 r1
  obtain rfl : u = Value.ref a := ru
  obtain rfl : u2 = Value.ref b := ru2
  obtain ⟨its1, rv1, p1, z1⟩ := I1.tuple hq1
  obtain ⟨its2, rv2, p2', z2⟩ := I1.tuple hq2
  have big1 : a < s1.heap.objs.size := by obtain ⟨o, q, _⟩ := p1; exact Heap.lt_size q
  have big2 : b < s1.heap.objs.size := by obtain ⟨o, q, _⟩ := p2'; exact Heap.lt_size q
  refine zip_begins2 (begins_tuple a its1.toArray) (begins_tuple b its2.toArray) ?_ ?_ fun h' hz hTI hTO g1 g2 hsz hk => Calls.spliced_nil ?_
  · exact p1
  · exact p2'
  have sep : ZipSep2 (s1.heap.objs.size + 4) (s1.heap.objs.size + 2) (s1.heap.objs.size + 3) s1.heap.objs.size (s1.heap.objs.size + 1) [s1.heap.objs.size, a] [s1.heap.objs.size + 1, b] := by
    have ne1 : ∀ k, s1.heap.objs.size + k ≠ a := fun k => Nat.ne_of_gt (Nat.lt_of_lt_of_le big1 (Nat.le_add_right _ _))
    have ne2 : ∀ k, s1.heap.objs.size + k ≠ b := fun k => Nat.ne_of_gt (Nat.lt_of_lt_of_le big2 (Nat.le_add_right _ _))
    have two : ∀ {x y z : Addr}, x ≠ y → x ≠ z → x ∉ [y, z] := fun h1 h2 h => by
      rcases List.mem_cons.mp h with h | h
      · exact h1 h
      · exact h2 (List.mem_singleton.mp h)
    have lt2 : ∀ (k m : Nat), k ≠ m → s1.heap.objs.size + k ≠ s1.heap.objs.size + m := fun k m h e => h (Nat.add_left_cancel e)
    exact ⟨lt2 2 4 (by decide), lt2 3 4 (by decide), lt2 2 3 (by decide), lt2 2 0 (by decide), List.mem_cons_self, two (lt2 4 0 (by decide)) (ne1 4), two (lt2 3 0 (by decide)) (ne1 3), lt2 2 1 (by decide), List.mem_cons_self, two (lt2 4 1 (by decide)) (ne2 4), two (lt2 3 1 (by decide)) (ne2 3), two (lt2 0 1 (by decide)) (ne2 0), two (lt2 1 0 (by decide)) (ne1 1)⟩
  have n1 : its1.toArray.size = xs.length := by rw [List.size_toArray, rv1.length]
  have n2 : its2.toArray.size = xs.length := by rw [List.size_toArray, ← rv2.length, hl]
  have tk : ∀ {c : Addr} {its : Array Value}, s1.heap.IsTuple c its → h'.IsTuple c its := fun z => by
    obtain ⟨o, e1, e2⟩ := z
    exact ⟨o, hk _ o e1, e2⟩
  refine call_list_zip (I1.ok.hd hc) sep (Nat.ne_of_lt big1) (Nat.ne_of_lt (Nat.lt_succ_of_lt big2)) n1 n2 h0 z1 hz hTI hTO ⟨⟨_, g1, rfl, rfl⟩, tk p1⟩ ⟨⟨_, g2, rfl, rfl⟩, tk p2'⟩ fun Ts h'' tk' J => ?_
  have sp : (h'.push { cls := .type "list", data := .seq #[] }).objs.size = s1.heap.objs.size + 6 := by rw [Heap.size_push, hsz]
  have hS0 : h'.objs.size = s1.heap.objs.size + 5 := hsz
  have kp : ∀ (c : Addr) (o : Obj), s1.heap.get? c = some o → h''.get? c = some o := fun c o e => by
    have l : c < s1.heap.objs.size := Heap.lt_size e
    exact J.keep c o (Heap.get?_push_of_some _ (hk c o e)) (Nat.ne_of_lt (Nat.lt_of_lt_of_le l (by omega))) (Nat.ne_of_lt (Nat.lt_of_lt_of_le l (by omega))) (Nat.ne_of_lt (Nat.lt_of_lt_of_le l (by omega))) (Nat.ne_of_lt (Nat.lt_of_lt_of_le l (by omega))) (Nat.ne_of_lt (Nat.lt_of_lt_of_le l (by show s1.heap.objs.size ≤ h'.objs.size; omega)))
  have tnew : ∀ T ∈ Ts, s1.heap.objs.size + 6 ≤ T := fun T hT => by have := J.new T hT; rw [sp] at this; exact this
  have dom : ∀ (c : Addr) (o : HO), H1 c = some o → c < s1.heap.objs.size := fun c o e => by
    by_cases q : c < s1.heap.objs.size
    · exact q
    · rw [I1.hok.fresh (Nat.le_of_not_lt q)] at e
      cases e
  let f : Nat → List V := fun j => [xs.getD j .non, ys.getD j .non]
  have oldT : ∀ c, c < s1.heap.objs.size → layT f Ts 0 H1 c = H1 c := fun c l => layT_else f Ts 0 H1 c fun z => Nat.not_lt.mpr (tnew c z) (Nat.lt_of_lt_of_le l (Nat.le_add_right _ _))
  have old : ∀ c, c < s1.heap.objs.size → upd (layT f Ts 0 H1) h'.objs.size (.lst (Ts.map V.ref)) c = H1 c := fun c l => by
    rw [upd_ne (Nat.ne_of_lt (Nat.lt_of_lt_of_le l (by omega))), oldT c l]
  have pair : ∀ (j : Nat) (T : Addr), Ts[j]? = some T → ∃ x y, xs[j]? = some x ∧ ys[j]? = some y ∧ ∃ u v, IsTupOf2 h'' T u v ∧ RelV x u ∧ RelV y v := fun j T hj => by
    obtain ⟨u, v, e1, e2, e3⟩ := J.at_ j T hj
    have hlt : j < Ts.length := by
      by_cases q : j < Ts.length
      · exact q
      · rw [List.getElem?_eq_none (by omega)] at hj
        cases hj
    have hx : j < xs.length := by rw [← J.len]; exact hlt
    obtain ⟨u', w1, r1⟩ := rv1.get (List.getElem?_eq_getElem hx)
    obtain ⟨v', w2, r2⟩ := rv2.get (List.getElem?_eq_getElem (show j < ys.length by omega))
    rw [List.getElem?_toArray, w1] at e1
    rw [List.getElem?_toArray, w2] at e2
    cases e1
    cases e2
    exact ⟨_, _, List.getElem?_eq_getElem hx, List.getElem?_eq_getElem (by omega), _, _, e3, r1, r2⟩
  have okT : HOk X.prog X.w (layT f Ts 0 H1) h'' := by
    refine hok_layT f Ts 0 H1 (I1.hok.kept kp) J.nd (fun T hT => I1.hok.fresh (Nat.le_trans (Nat.le_add_right _ _) (tnew T hT))) fun j T hj H'' => ?_
    obtain ⟨x, y, e1, e2, u, v, e3, r1, r2⟩ := pair j T hj
    have ef : f (0 + j) = [x, y] := by
      show [xs.getD (0 + j) .non, ys.getD (0 + j) .non] = _
      rw [Nat.zero_add, List.getD_eq_getElem?_getD, List.getD_eq_getElem?_getD, e1, e2]
      rfl
    rw [ef]
    exact ⟨by show 2 ≤ sizeLine; decide, [u, v], .cons r1 (.cons r2 .nil), ⟨_, e3, rfl, _, rfl⟩⟩
  obtain ⟨cL, hL⟩ := J.lst
  have ok2 : HOk X.prog X.w (upd (layT f Ts 0 H1) h'.objs.size (.lst (Ts.map V.ref))) h'' := by
    refine HOk.laidN okT (fun _ _ e => e) ?_ ?_
    · rw [layT_else f Ts 0 H1 _ (fun z => by have := tnew _ z; omega)]
      exact I1.hok.fresh (by omega)
    · exact ⟨by rw [List.length_map, J.len]; exact z1, Ts.map Value.ref, _, vals_refs Ts, hL⟩
  have I2 := I1.un (t' := tk') (h' := h'') (H' := upd (layT f Ts 0 H1) h'.objs.size (.lst (Ts.map V.ref)))
    ⟨fun c o e _ _ _ => kp c o e, fun c o e _ _ _ => ⟨o.slots, kp c o e⟩, fun c o e n _ => by rw [old c (Heap.lt_size e)]; exact n, fun c o e _ => ⟨o, kp c o e⟩, fun c zs e => by rw [old c (dom c _ e)]; exact e, fun c o u e => by rw [old c (dom c _ e)]; exact e, fun c ps e => ⟨#[], by rw [old c (dom c _ e), Array.append_empty]; exact e⟩⟩ ok2
  refine ⟨.ref h'.objs.size, _, I2, rfl, q _ _ ⟨fun c o e => by rw [old c (dom c o e)]; exact e, I1.hok.fresh (by omega), Ts, upd_same, J.len, fun j T hj => ?_⟩⟩
  obtain ⟨x, y, e1, e2, u, v, e3, r1, r2⟩ := pair j T hj
  refine ⟨x, y, e1, e2, ?_⟩
  have hT := tnew T (List.mem_of_getElem? hj)
  rw [upd_ne (Nat.ne_of_gt (Nat.lt_of_lt_of_le (show h'.objs.size < s1.heap.objs.size + 6 by omega) hT)), layT_at f Ts 0 H1 j T J.nd hj]
  show some (HO.tup [xs.getD (0 + j) .non, ys.getD (0 + j) .non]) = _
  rw [Nat.zero_add, List.getD_eq_getElem?_getD, List.getD_eq_getElem?_getD, e1, e2]
  rfl
end Ow
end
section
set_option maxHeartbeats 4000000
/-! raise X(), X an own error without a def of its own. -/
namespace Ow
open PySem PySem.Spec PyProof.Rows L2 StX
theorem pmk_own0 {X : Cx} {C : Addr} {bmB : List Value} {B newId initId : String} {x : Str} {p pos : Pos} (F : ExcBaseFacts B newId initId bmB) (q : PySem.W.excIn X.K C bmB newId = true) (gC : X.mg x = some (.ref C)) (kC : PySem.W.keepIn X.K (.ref C) = true) (r : Raises X (.ref C)) (hg : Gl X x)
    (hdb : (x == ("__debug__" : Str)) = false := by decide) : PMk X (.Call (.Name x p) [] [] pos) (fun _ H Q => Q (.ref C) none H) := by
  intro pins s σ H Q I h
  refine wpAny_Call_Name_kw (ld_glob I hg gC ?_ hdb)
  refine PySem.W.callWith_K0 I.kIn kC ?_
  obtain ⟨bm, N, nm, qn, bs, hdct, sn, sub, ab, col, dd, k0, k1, k2, k3, k5, mN, hC, hN, hni, T⟩ := exc_obj I.kIn q
  obtain ⟨hp, g, dr, tk, os⟩ := s
  exact wpAny_call_exc_subT F T hC hN hni (fun h' e hm => mk_of I hm r h (I.hok.gone hm.new)) (by show 0 ≤ sizeLine; exact Nat.zero_le _)
end Ow
end
section
set_option maxHeartbeats 4000000
/-! x op= y where the class has that method of its own; ~x. -/
namespace Ow
open PySem PySem.Spec PyProof.Rows L2
section
variable {X : Cx} {CX : CXT} {n : Nat} {C g : Addr} {sp : Sp} {E : XK}
theorem iop_own {op : Operator} (hc : PySem.W.selfFirst X.K C = true) (hs : PySem.W.findIn X.K (.ref C) (dunderI op.info.2) = some (some (.ref g))) (hf : PySem.W.isFn X.K (.ref g) = true)
    (F : FnR X.prog X.w X.K X.mg X.base CX n g sp) (hr : Room n X.A) (hx : Passes CX X E) : OpR X (inplaceOp op) (rBin C sp E) := by
  intro pins s σ H x y v u Q I rx ry h
  obtain ⟨a, b, rfl, rfl, ha, hb, q⟩ := h
  cases (show v = Value.ref a from rx)
  cases (show u = Value.ref b from ry)
  obtain ⟨ox, od, J⟩ := inst_of I ha
  obtain ⟨m, hF⟩ := I.fr
  refine PySem.W.ksp_inplace (op := op) hF I.ok.mod.kin J hc hs hf ?_
  refine wpAny_mono (wpAny_call (run_fnR (us := [.ref a, .ref b]) (vs := [.ref a, .ref b]) F hr hx I (.cons rfl (.cons rfl .nil)) q)) (fun w s' z => ?_) fun _ _ x => x
  obtain ⟨z', H', I', rz, qz⟩ := z
  exact cmpbackR rz ⟨z', H', I', rz, qz⟩
end
end Ow
end
section
set_option maxHeartbeats 4000000
/-! A comprehension of which each item is known by what it is, not by where it stands. -/
namespace Ow
open PySem PySem.Spec PyProof.Rows L2
/-- all objects but lists stay -/
def NL (H H' : Hp) : Prop := ∀ b o, H b = some o → (∀ xs, o ≠ .lst xs) → H' b = some o
def LcE (R : Nat → V → Hp → Prop) (H1 H : Hp) (D : Addr) (i : Nat) : Prop := ∃ out, LcIn H1 H D out ∧ out.length = i ∧ ∀ j v, out[j]? = some v → R j v H
theorem kLc.each {J : It} {n : Nat} {G : Hp → Prop} {Y : Nat → Hp → V → Hp → Prop} (w : Walk J n G Y) {g : TG} {tt : TT} {te : TE} {vs : List Nat} {σ : L2.St} {Q : VK} {H1 : Hp} (R : Nat → V → Hp → Prop) (hG : ∀ H, Same H1 H → G H)
    (hs : ∀ D i x H H', i < n → LcE R H1 H D i → Y i H x H' → g x (wipe σ vs) H' fun σ2 H2 => wipe σ2 vs = wipe σ vs ∧ tt σ2 H2 fun b H3 => if b = true then te σ2 H3 (kApp D fun H' => LcE R H1 H' D (i + 1)) else LcE R H1 H3 D (i + 1))
    (hd : ∀ D H' out, Fresh H1 H' D (.lst out) → out.length = n → (∀ i v, out[i]? = some v → R i v H') → Q (.ref D) H') : kLc J g tt te vs σ Q H1 := fun D hD =>
  lc_it w (fun i H => LcE R H1 H D i) ⟨[], ⟨(fresh_upd hD).same, upd_same, hD⟩, rfl, fun j v h => by cases h⟩ (fun i H _ c => hG H (let ⟨_, c, _⟩ := c; c.same)) (fun i x H H' hi c y => hs D i x H H' hi c y) fun H c => let ⟨out, c, h1, h2⟩ := c; hd D H out ⟨c.same, c.at_, c.new⟩ h1 h2
theorem kApp.each {R : Nat → V → Hp → Prop} (hR : ∀ i v H H', R i v H → NL H H' → R i v H') {H1 H H4 : Hp} {D : Addr} {i : Nat} {y : V} (c : LcE R H1 H D i) (s : Same H H4) (hl : i < sizeLine) (h : R i y H4) : kApp D (fun H' => LcE R H1 H' D (i + 1)) y H4 := by
  obtain ⟨out, c, h1, h2⟩ := c
  have at4 := s _ _ c.at_
  have nl : NL H4 (upd H4 D (.lst (out ++ [y]))) := fun b o e n => by
    rw [upd_ne]
    · exact e
    · intro z
      rw [z, at4] at e
      exact n _ (Option.some.inj e).symm
  refine ⟨out, at4, by rw [h1]; exact hl, out ++ [y], ⟨fun b u e => ?_, upd_same, c.new⟩, by rw [List.length_append, h1]; rfl, fun j v hj => ?_⟩
  · rw [upd_ne (ne_of_none e c.new)]
    exact s _ _ (c.same _ _ e)
  · by_cases hlt : j < out.length
    · rw [List.getElem?_append_left hlt] at hj
      exact hR j v _ _ (h2 j v hj) fun b o e n => nl b o (s b o e) n
    · rw [List.getElem?_append_right (by omega)] at hj
      have hz : j - out.length = 0 := by
        by_cases q : j - out.length = 0
        · exact q
        · rw [List.getElem?_eq_none (by rw [List.length_singleton]; omega)] at hj
          cases hj
      rw [hz] at hj
      cases hj
      have e : j = i := by omega
      subst e
      exact hR _ _ _ _ h nl
theorem Same.putNew {H H1 H2 : Hp} {l : Addr} {o : HO} (s : Same H H1) (nl : H l = none) (f : Put H1 H2 l o) : Same H H2 := fun b u e => f.get (ne_of_none e nl) (s b u e)
theorem none_back {H H1 : Hp} {p : Addr} (s : Same H H1) (n : H1 p = none) : H p = none := by
  cases h : H p with
  | none => rfl
  | some o => rw [s _ _ h] at n; cases n
end Ow
end
section
set_option maxHeartbeats 4000000
/-! A comprehension with any invariant (its items may change what stands). -/
namespace Ow
open PySem PySem.Spec PyProof.Rows L2
theorem kLc.it {J : It} {n : Nat} {G : Hp → Prop} {Y : Nat → Hp → V → Hp → Prop} (w : Walk J n G Y) {g : TG} {tt : TT} {te : TE} {vs : List Nat} {σ : L2.St} {Q : VK} {H1 : Hp} (I : Addr → Nat → Hp → Prop) (h0 : ∀ D H', Fresh H1 H' D (.lst []) → I D 0 H') (hG : ∀ D i H, I D i H → G H)
    (hs : ∀ D i x H H', i < n → I D i H → Y i H x H' → g x (wipe σ vs) H' fun σ2 H2 => wipe σ2 vs = wipe σ vs ∧ tt σ2 H2 fun b H3 => if b = true then te σ2 H3 (kApp D fun H' => I D (i + 1) H') else I D (i + 1) H3)
    (hd : ∀ D H', I D n H' → Q (.ref D) H') : kLc J g tt te vs σ Q H1 := fun D hD =>
  lc_it w (fun i H => I D i H) (h0 D _ (fresh_upd hD)) (fun i H _ c => hG D i H c) (fun i x H H' hi c y => hs D i x H H' hi c y) fun H c => hd D H c
end Ow
end
section
set_option maxHeartbeats 4000000
/-! Rules whose readings name the knowledge K itself, not the context's: within comprehensions, where the context hangs on what is bound there. -/
namespace Ow
open PySem PySem.Spec PyProof.Rows L2
section
variable {X : Cx} {K : PySem.W.Frag}
def rJoin (K : PySem.W.Frag) : V → List V → Hp → VK → Prop := fun x xs H Q => ∃ a p, ∃ ys : List Str, x = .str a ∧ xs = [.ref p] ∧ (SqL K H p (ys.map V.str) ∨ SqT K H p (ys.map V.str)) ∧ (ys.map (·.length)).sum + ys.length * a.length ≤ 16777216 ∧ Q (.str (Txt.join a ys)) H
theorem pe_joinK {o e : Expr} {to te : TE} {apos pos : Pos} (hK : X.K = K) (ho : PE X o to) (he : PE X e te) (hs : starEach [e] X.env = [(false, eval e X.env)] := by rfl) (hbase : attributeBase o "join" X.env (eval o X.env) = eval o X.env := by rfl) (hline : (apos.endLine == pos.line) = true := by rfl) :
    PE X (.Call (.Attribute o "join" apos) [e] [] pos) (tM1 (rJoin K) to te) := by
  subst hK
  exact pe_join ho he hs hbase hline
theorem pi_listK {tg l : Expr} {tl : TE} (hK : X.K = K) (hl : PE X l tl) : PI X tg l (iList K tl) := by
  subst hK
  exact pi_list hl
theorem pi_tupK {tg l : Expr} {tl : TE} (hK : X.K = K) (hl : PE X l tl) : PI X tg l (iTup K tl) := by
  subst hK
  exact pi_tup hl
theorem ix_listK (hK : X.K = K) : IxR X (rIxL K) := by
  subst hK
  exact ix_list
theorem call_lenKK (hK : X.K = K) : CallR X (.builtin "len") (rLenSeq K) := by
  subst hK
  exact call_lenK
theorem call_tupleKK (hK : X.K = K) : CallR X (.type "tuple") (rTupOf K) := by
  subst hK
  exact call_tupleK
theorem call_listKK (hK : X.K = K) : CallR X (.type "list") (rListOf K) := by
  subst hK
  exact call_listK
theorem op_eqDK (hK : X.K = K) (hu : X.A.units + 64 < cLine) : OpR X (compareOp .Eq) (rEqD K) := by
  subst hK
  exact op_eqD hu
theorem op_neDK (hK : X.K = K) (hu : X.A.units + 64 < cLine) : OpR X (compareOp .NotEq) (rNeD K) := by
  subst hK
  exact op_neD hu
theorem op_inK (hK : X.K = K) : OpR X (compareOp .In) (rIn K false) := by
  subst hK
  exact op_in_seq
end
end Ow
end
section
set_option maxHeartbeats 4000000
/-! x in t, x not in t: t a tuple, items and x data of any depth. -/
namespace Ow
open PySem PySem.Spec PyProof.Rows L2
section
variable {X : Cx}
def rInDT (K : PySem.W.Frag) (neg : Bool) : R2 := fun x y H Q => ∃ d ds, Dp K H x d ∧ Dp K H y (.tuple ds) ∧ SeqAt.shaped d = true ∧ SeqAt.shaped (.tuple ds) = true ∧ Q (.bl (if neg then !(ds.any fun z => PyData.eqv z d) else ds.any fun z => PyData.eqv z d)) H
theorem op_notInDT (hu : X.A.units + 65 < cLine) : OpR X (compareOp .NotIn) (rInDT X.K true) := by
  intro pins s σ H x y v u Q I rx ry h
  obtain ⟨d, ds, hd, he, sd, se, q⟩ := h
  obtain ⟨as, r1⟩ := Dp.reads I d x v hd rx
  obtain ⟨bs, r2⟩ := Dp.reads I (.tuple ds) y u he ry
  exact SeqAt.notIn_tuple_reads r2 r1 (SeqAt.canLay_of_shaped se) (SeqAt.canLay_of_shaped sd) (room_in_shaped sd hu) ⟨.bl _, H, I, rfl, q⟩
theorem op_inDT (hu : X.A.units + 65 < cLine) : OpR X (compareOp .In) (rInDT X.K false) := by
  intro pins s σ H x y v u Q I rx ry h
  obtain ⟨d, ds, hd, he, sd, se, q⟩ := h
  obtain ⟨as, r1⟩ := Dp.reads I d x v hd rx
  obtain ⟨bs, r2⟩ := Dp.reads I (.tuple ds) y u he ry
  exact SeqAt.in_tuple_reads r2 r1 (SeqAt.canLay_of_shaped se) (SeqAt.canLay_of_shaped sd) (room_in_shaped sd hu) ⟨.bl _, H, I, rfl, q⟩
end
end Ow
end
section
set_option maxHeartbeats 4000000
/-! tuple * int, the int 1 or more. -/
namespace Ow
open PySem PySem.Spec PyProof.Rows L2
theorem tuple_mul1W (l : Addr) (items : Array Value) (n : Nat) (dd : Option Addr) (sl : Array (Option Value)) (u : Tok) :
    Meets (Builtin.«tuple.__mul__» ⟨[.ref l, .int 1 u], []⟩) (fun _ R s => s.heap.get? l = some { cls := .type "tuple", dict := dd, data := .seq items n, slots := sl } ∧
      R (.ok (.ret (Value.ref l))) s) :=
  .of_wp fun prog w A R s h => by
    obtain ⟨hp, g, d, tk, os⟩ := s
    obtain ⟨hl, h⟩ := h
    have f1 := AutoSeq1.idx_int
    wp_walk using wpAny_loadPart' hl
    exact ⟨_, rfl, h⟩
section
variable {X : Cx}
theorem op_repT1 : OpR X (binaryOp .Mult) (fun x y H Q => ∃ l xs, x = .ref l ∧ y = .int 1 ∧ SqT X.K H l xs ∧ Q (.ref l) H) := by
  intro pins s σ H x y v u Q I rx ry h
  obtain ⟨l, xs, rfl, rfl, hT, q⟩ := h
  cases rx
  obtain ⟨t, rfl⟩ := ry
  obtain ⟨its, r, ⟨⟨cls, dd, data, sl⟩, ho, hc, n, hd⟩, hs⟩ := I.tuple hT
  simp only at hc hd
  subst hc hd
  refine wpAny_binaryOp_repeat_ref (T := "tuple") (U := "int") (by decide) ⟨_, ho, rfl⟩ (fun s' => typeIs_int s' 1 t) noFill_tuple_mul F.fills_int_mul F.slot_int_rmul repeat_tuple F.slot_int_index.lookup
    (call_meets F.slot_int_rmul (typeIs_int s 1 t) F.entry_int_rmul (F.args_int_rmul_2 _ _) (int_rmul_tuple 1 t l its.toArray n dd sl)
      ⟨ho, rfl, ⟨_, ho, rfl⟩, call_meets F.slot_tuple_mul ⟨_, ho, rfl⟩ F.entry_tuple_mul (F.args_tuple_mul_2 _ _) (tuple_mul1W l its.toArray n dd sl t) ⟨ho, ?_⟩⟩)
  exact ⟨.ref l, H, I, rfl, q⟩
/-- t * k, k from 1 on: a new tuple, or the very one -/
def rRepT1 : R2 := fun x y H Q => ∃ l k xs, x = .ref l ∧ y = .int k ∧ H l = some (.tup xs) ∧ xs ≠ [] ∧ 1 ≤ k ∧ k ≤ 1000 ∧ xs.length ≤ 1000 ∧ ∀ t H', Same H H' → H' t = some (.tup (List.replicate k.toNat xs).flatten) → (H t = none ∨ t = l) → Q (.ref t) H'
theorem op_repTK : OpR X (binaryOp .Mult) rRepT1 := by
  intro pins s σ H x y v u Q I rx ry h
  obtain ⟨l, k, xs, rfl, rfl, hT, hne, h1, h2, h3, q⟩ := h
  by_cases e : k = 1
  · subst e
    exact op_repT1 pins s σ H _ _ v u Q I rx ry ⟨l, xs, rfl, rfl, .inl (.inl hT), q l H (Same.refl H) (by simpa using hT) (.inr rfl)⟩
  · exact op_repT pins s σ H _ _ v u Q I rx ry ⟨l, k, xs, rfl, rfl, .inl (.inl hT), hne, by omega, h2, h3, fun p hp => q p _ (fresh_upd hp).same (fresh_upd (o := .tup (List.replicate k.toNat xs).flatten) hp).at_ (.inl hp)⟩
end
end Ow
end
section
set_option maxHeartbeats 4000000
/-! An instance made by a local name that holds the class; a classmethod called by keywords. -/
namespace Ow
open PySem PySem.Spec PyProof.Rows L2 StX ClX
section
variable {X : Cx} {CX : CXT} {n i : Nat} {C g : Addr} {sp : Sp} {E : XK} {x : Str} {p pos : Pos} {e : Expr} {es : List Expr} {t : TA}
/-- x(e, ..): slot i holds the class at C -/
def tMakeL (i : Nat) (C : Addr) (sp : Sp) (E : XK) (t : TA) : TE := fun σ H Q => σ[i]? = some (some (.ref C)) ∧ t σ H (kMake C sp E Q)
theorem pe_makeL (M : Mk X.K C g) (F : FnR X.prog X.w X.K X.mg X.base CX n g sp) (hr : Room (n + 1) X.A) (hN : X.N[i]? = some x) (hv : Vis X.env.scope x) (hx : Passes CX X E) (ha : PA X (e :: es) t)
    (hdb : (x == ("__debug__" : Str)) = false := by decide) (hcd : (x == ("__classdict__" : Str)) = false := by decide)
    (he : starEach (e :: es) X.env = (false, eval e X.env) :: starEach es X.env := by rfl) (hpl : (backTo pos (starEach es X.env)).any (·.1) = false := by rfl) : PE X (.Call (.Name x p) (e :: es) [] pos) (tMakeL i C sp E t) := by
  refine ⟨fun pins s σ H Q I h => ?_⟩
  obtain ⟨hs, ht⟩ := h
  refine wpAny_Call_Name_kw (thn ((pe_var (pos := p) hN hv hdb hcd).run pins s σ H (fun v H1 => v = .ref C ∧ H1 = H) I ⟨.ref C, hs, rfl, rfl⟩) fun u s1 ⟨v, H1, I1, r1, q1⟩ => ?_)
  obtain ⟨rfl, rfl⟩ := q1
  cases r1
  refine PySem.W.callWith_K (h₀ := X.base) I.ok.mod.kin M.kp (thn (ha.run pos pins s1 σ _ _ I1 ht) fun us s2 ⟨vs, H2, I2, r, q⟩ => ⟨I2.kIn, ?_⟩) he hpl
  exact run_makeR M F hr hx I2 r q
end
section
variable {X : Cx} {CX : CXT} {k : Nat} {C p g : Addr} {mc : Value} {sp : Sp} {E : XK} {o : Expr} {m : Str} {pos apos : Pos} {ta : TE} {pl : Sem Bool}
/-- C.m(k=e, ..), m a classmethod, by keywords alone -/
def tCMethK (C : Addr) (n : Nat) (sp : Sp) (gV : List V → List V → List V) (E : XK) (ta : TE) (tk : TA) : TE := fun σ H Q => ta σ H fun x H1 => x = .ref C ∧ tk σ H1 fun zs H2 => zs.length = n ∧ sp (gV [.ref C] zs) H2 Q E
theorem pe_cmethK {kws : List Keyword} {fd : FuncData} {ps ks : List Str} {tk : TA} {gl : List Value → List Value → List Value} {gV : List V → List V → List V} (he : PE X o ta) (r : CRead X.K C mc) (c : CMet X.K C mc m p g)
    (F : FnOk X.prog X.w X.K X.mg X.base CX k g fd ps sp) (hr : Room k X.A) (hb : KBn X.K fd ps 1 ks gl gV) (hx : Passes CX X E) (hkw : PK X kws tk)
    (hall : (backToKw pos (keywordEach kws X.env)).all (·.1.isSome) = true := by rfl) (hks : (backToKw pos (keywordEach kws X.env)).filterMap (·.1) = ks := by rfl)
    (hpl : ((backTo pos (starEach [] X.env)).any (·.1) || (backToKw pos (keywordEach kws X.env)).any (·.1.isNone)) = false := by rfl)
    (ht : eval (.Call (.Attribute o m apos) [] kws pos) X.env = (do
      let ov ← eval o X.env
      standAt apos.atName
      let (f, first) ← holding [ov] (getMethod ov m pl)
      callWith pos f first (backTo pos (starEach [] X.env)) (backToKw pos (keywordEach kws X.env))) := by rfl) :
    PE X (.Call (.Attribute o m apos) [] kws pos) (tCMethK C ks.length sp gV E ta tk) := by
  refine ⟨fun pins s σ H Q I h => ?_⟩
  refine PySem.W.methodCall_KW (pl := pl) (thn (he.run pins s σ H _ I h) fun u s1 ⟨x, H1, I1, rx, ex, q⟩ => ?_) ht
  subst ex
  obtain rfl : u = Value.ref C := rx
  refine getmethcm_ok I1 r c fun s2 I2 => ?_
  refine PySem.W.callWith_of hpl (PySem.W.keeps_M c.fi) (evalArgs_kw2_nil hall (thn (hkw.run pos _ s2 σ H1 _ I2 q) fun ws s3 ⟨zs, H3, I3, rz, l2, q2⟩ => ⟨⟨pin_at I3, I3.kIn⟩, ?_⟩))
  rw [hks]
  have r1 : Vals [V.ref C] [Value.ref C] := .cons rfl .nil
  refine thn (Q := EP X ((s1.heap.objs.size, PySem.W.methodObj (.ref g) (.ref C)) :: pins) σ Q) (wpAny_call (PySem.W.method_call (pin_at I3) (codeAny_mono (F.run X.A X.stack s3 H3 ⟨[.ref C], ks.zip ws⟩ (gl [.ref C] ws) (gV [.ref C] zs) Q E hr I3.env0 (hb.to s3 [.ref C] ws I3.kIn rfl (rz.length.symm.trans l2)) (hb.rel r1 rz) q2) fun r s' hq => ?_))) fun _ _ y => unpinE y
  cases r with
  | error e => exact hx _ σ H3 s3 e s' I3 hq
  | ok fl =>
    cases fl with
    | ret u => exact I3.after hq
    | next => exact False.elim hq
    | brk => exact False.elim hq
    | cont => exact False.elim hq
end
end Ow
end
section
namespace Pf
open PySem PySem.Spec PyProof.Rows L2 Ow
def topS (i : Nat) : Stmt := PySem.Challenge.pw_heldfloods_k24_texts_of_pictures.main.body.getD i (.Pass ⟨0, 0, 0, 0⟩)
abbrev s__law_pen : Stmt := topS 28
theorem sc__law_pen : FnScope ["_law_script"] ["_law_script"] (defScope s__law_pen) := ⟨rfl, rfl, rfl, by decide +kernel, rfl, by decide +kernel, by decide +kernel⟩
abbrev s__law_draw : Stmt := topS 29
theorem sc__law_draw : FnScope ["_law_pen_here", "_law_many", "_law_digit", "_law_begun", "_law_cell", "_law_great", "_law_mixed"] ["_law_pen_here", "_law_many"] (defScope s__law_draw) := ⟨rfl, rfl, rfl, by decide +kernel, rfl, by decide +kernel, by decide +kernel⟩
abbrev s__law_pick : Stmt := topS 30
theorem sc__law_pick : FnScope ["_law_pen_here", "_law_some"] ["_law_pen_here", "_law_some"] (defScope s__law_pick) := ⟨rfl, rfl, rfl, by decide +kernel, rfl, by decide +kernel, by decide +kernel⟩
abbrev s__law_lines : Stmt := topS 32
theorem sc__law_lines : FnScope ["_law_pen_here", "_law_wide", "_law_tall", "_law_some", "_law_found", "_law_j", "_law_i"] ["_law_pen_here", "_law_wide", "_law_tall"] (defScope s__law_lines) := ⟨rfl, rfl, rfl, by decide +kernel, rfl, by decide +kernel, by decide +kernel⟩
abbrev s_BadText_init : Stmt := inClass (topS 7) 0
theorem sc_BadText_init : FnScope ["self", "line", "word"] ["self", "line", "word"] (defScope s_BadText_init) := ⟨rfl, rfl, rfl, by decide +kernel, rfl, by decide +kernel, by decide +kernel⟩
abbrev s_is_row : Stmt := topS 16
theorem sc_is_row : FnScope ["value", "most"] ["value", "most"] (defScope s_is_row) := ⟨rfl, rfl, rfl, by decide +kernel, rfl, by decide +kernel, by decide +kernel⟩
abbrev s_wrong_row : Stmt := topS 15
theorem sc_wrong_row : FnScope ["rows", "most", "at", "row"] ["rows", "most"] (defScope s_wrong_row) := ⟨rfl, rfl, rfl, by decide +kernel, rfl, by decide +kernel, by decide +kernel⟩
abbrev s_Picture_init : Stmt := inClass (topS 21) 1
theorem sc_Picture_init : FnScope ["self", "rows", "wrong"] ["self", "rows"] (defScope s_Picture_init) := ⟨rfl, rfl, rfl, by decide +kernel, rfl, by decide +kernel, by decide +kernel⟩
abbrev s_Picture_rows : Stmt := inClass (topS 21) 3
theorem sc_Picture_rows : FnScope ["self"] ["self"] (defScope s_Picture_rows) := ⟨rfl, rfl, rfl, by decide +kernel, rfl, by decide +kernel, by decide +kernel⟩
abbrev s_Picture_eq : Stmt := inClass (topS 21) 12
theorem sc_Picture_eq : FnScope ["self", "other"] ["self", "other"] (defScope s_Picture_eq) := ⟨rfl, rfl, rfl, by decide +kernel, rfl, by decide +kernel, by decide +kernel⟩
abbrev s_Picture_str : Stmt := inClass (topS 21) 27
theorem sc_Picture_str : FnScope ["self"] ["self"] (defScope s_Picture_str) := ⟨rfl, rfl, rfl, by decide +kernel, rfl, by decide +kernel, by decide +kernel⟩
abbrev s_Picture_read : Stmt := inClass (topS 21) 28
theorem sc_Picture_read : FnScope ["cls", "text", "lines", "wrong"] ["cls", "text"] (defScope s_Picture_read) := ⟨rfl, rfl, rfl, by decide +kernel, rfl, by decide +kernel, by decide +kernel⟩
abbrev s__law_heard : Stmt := topS 31
theorem sc__law_heard : FnScope ["_law_ask", "error"] ["_law_ask"] (defScope s__law_heard) := ⟨rfl, rfl, rfl, by decide +kernel, rfl, by decide +kernel, by decide +kernel⟩
abbrev s__law_sizes : Stmt := topS 33
theorem sc__law_sizes : FnScope ["_law_pen_here"] ["_law_pen_here"] (defScope s__law_sizes) := ⟨rfl, rfl, rfl, by decide +kernel, rfl, by decide +kernel, by decide +kernel⟩
abbrev s__law_due : Stmt := topS 34
theorem sc__law_due : FnScope ["_law_page", "_law_lines_here", "_law_k", "_law_wrong", "_law_sign"] ["_law_page"] (defScope s__law_due) := ⟨rfl, rfl, rfl, by decide +kernel, rfl, by decide +kernel, by decide +kernel⟩
abbrev s__law_bent : Stmt := topS 35
theorem sc__law_bent : FnScope ["_law_pen_here", "_law_page", "_law_lines_here", "_law_way", "_law_k", "_law_spot", "_law_sign"] ["_law_pen_here", "_law_page"] (defScope s__law_bent) := ⟨rfl, rfl, rfl, by decide +kernel, rfl, by decide +kernel, by decide +kernel⟩
abbrev s__law_read_right : Stmt := topS 36
theorem sc__law_read_right : FnScope ["_law_page", "_law_due_here", "_law_heard_here"] ["_law_page"] (defScope s__law_read_right) := ⟨rfl, rfl, rfl, by decide +kernel, rfl, by decide +kernel, by decide +kernel⟩
abbrev s_law : Stmt := topS 37
theorem sc_law : FnScope ["_law_script", "_law_pen_here", "_law_turn", "_law_wide", "_law_tall", "_law_lines_here", "_law_made", "_law_page", "_law_bent_here", "_law_some", "_law_odd"] ["_law_script"] (defScope s_law) := ⟨rfl, rfl, rfl, by decide +kernel, rfl, by decide +kernel, by decide +kernel⟩
structure Adr where
  _law_pen : Addr
  _law_draw : Addr
  _law_pick : Addr
  _law_lines : Addr
  BadText_init : Addr
  is_row : Addr
  wrong_row : Addr
  Picture_init : Addr
  Picture_rows : Addr
  Picture_eq : Addr
  Picture_str : Addr
  Picture_read : Addr
  _law_heard : Addr
  _law_sizes : Addr
  _law_due : Addr
  _law_bent : Addr
  _law_read_right : Addr
  law : Addr
  Picture : Addr
  pr_Picture_rows : Addr
  BadText : Addr
  HoldError : Addr
  cm_read : Addr
structure Txt (K : PySem.W.Frag) (mg : Str → Option Value) (a : Adr) : Prop where
  n_len : mg "len" = none
  n_int : mg "int" = none
  n_abs : mg "abs" = none
  n_list : mg "list" = none
  n_range : mg "range" = none
  n_repr : mg "repr" = none
  n_tuple : mg "tuple" = none
  n_str : mg "str" = none
  n_isinstance : mg "isinstance" = none
  n_bool : mg "bool" = none
  n_enumerate : mg "enumerate" = none
  n_min : mg "min" = none
  d__law_pen : FnT K "_law_pen" "_law_pen" s__law_pen [] a._law_pen
  m__law_pen : mg "_law_pen" = some (.ref a._law_pen)
  k__law_pen : PySem.W.keepIn K (.ref a._law_pen) = true
  d__law_draw : FnT K "_law_draw" "_law_draw" s__law_draw [] a._law_draw
  m__law_draw : mg "_law_draw" = some (.ref a._law_draw)
  k__law_draw : PySem.W.keepIn K (.ref a._law_draw) = true
  d__law_pick : FnT K "_law_pick" "_law_pick" s__law_pick [] a._law_pick
  m__law_pick : mg "_law_pick" = some (.ref a._law_pick)
  k__law_pick : PySem.W.keepIn K (.ref a._law_pick) = true
  d__law_lines : FnT K "_law_lines" "_law_lines" s__law_lines [] a._law_lines
  m__law_lines : mg "_law_lines" = some (.ref a._law_lines)
  k__law_lines : PySem.W.keepIn K (.ref a._law_lines) = true
  d_BadText_init : FnT K "__init__" "BadText.__init__" s_BadText_init [] a.BadText_init
  d_is_row : FnT K "is_row" "is_row" s_is_row [] a.is_row
  m_is_row : mg "is_row" = some (.ref a.is_row)
  k_is_row : PySem.W.keepIn K (.ref a.is_row) = true
  d_wrong_row : FnT K "wrong_row" "wrong_row" s_wrong_row [] a.wrong_row
  m_wrong_row : mg "wrong_row" = some (.ref a.wrong_row)
  k_wrong_row : PySem.W.keepIn K (.ref a.wrong_row) = true
  d_Picture_init : FnT K "__init__" "Picture.__init__" s_Picture_init [] a.Picture_init
  d_Picture_rows : FnT K "rows" "Picture.rows" s_Picture_rows [] a.Picture_rows
  d_Picture_eq : FnT K "__eq__" "Picture.__eq__" s_Picture_eq [] a.Picture_eq
  d_Picture_str : FnT K "__str__" "Picture.__str__" s_Picture_str [] a.Picture_str
  d_Picture_read : FnT K "read" "Picture.read" s_Picture_read [] a.Picture_read
  d__law_heard : FnT K "_law_heard" "_law_heard" s__law_heard [] a._law_heard
  m__law_heard : mg "_law_heard" = some (.ref a._law_heard)
  k__law_heard : PySem.W.keepIn K (.ref a._law_heard) = true
  d__law_sizes : FnT K "_law_sizes" "_law_sizes" s__law_sizes [] a._law_sizes
  m__law_sizes : mg "_law_sizes" = some (.ref a._law_sizes)
  k__law_sizes : PySem.W.keepIn K (.ref a._law_sizes) = true
  d__law_due : FnT K "_law_due" "_law_due" s__law_due [] a._law_due
  m__law_due : mg "_law_due" = some (.ref a._law_due)
  k__law_due : PySem.W.keepIn K (.ref a._law_due) = true
  d__law_bent : FnT K "_law_bent" "_law_bent" s__law_bent [] a._law_bent
  m__law_bent : mg "_law_bent" = some (.ref a._law_bent)
  k__law_bent : PySem.W.keepIn K (.ref a._law_bent) = true
  d__law_read_right : FnT K "_law_read_right" "_law_read_right" s__law_read_right [] a._law_read_right
  m__law_read_right : mg "_law_read_right" = some (.ref a._law_read_right)
  k__law_read_right : PySem.W.keepIn K (.ref a._law_read_right) = true
  d_law : FnT K "law" "law" s_law [] a.law
  m_law : mg "law" = some (.ref a.law)
  k_law : PySem.W.keepIn K (.ref a.law) = true
  m_Picture : mg "Picture" = some (.ref a.Picture)
  c_Picture : ClsF K a.Picture
  M_Picture : Mk K a.Picture a.Picture_init
  a_Picture__rows : NoAttr K a.Picture "_rows"
  p_Picture_rows : PropR K a.Picture "rows" a.pr_Picture_rows a.Picture_rows
  o_Picture_eq : PySem.W.findIn K (.ref a.Picture) "__eq__" = some (some (.ref a.Picture_eq))
  f_Picture_eq : PySem.W.isFn K (.ref a.Picture_eq) = true
  o_Picture_str : PySem.W.findIn K (.ref a.Picture) "__str__" = some (some (.ref a.Picture_str))
  f_Picture_str : PySem.W.isFn K (.ref a.Picture_str) = true
  cr_Picture : ClX.CRead K a.Picture (.type "type")
  cv_MOST : ∃ u, ClX.CVal K a.Picture (.type "type") "MOST" (.int 200) u
  o_Picture_ne : PySem.W.findIn K (.ref a.Picture) "__ne__" = some (some (.builtin "object.__ne__"))
  sub_Pstr : PySem.W.subIn K (.ref a.Picture) (.type "str") = some false
  s_Picture_obj : PySem.W.subIn K (.ref a.Picture) (.type "object") = some true
  cm_read : ClX.CMet K a.Picture (.type "type") "read" a.cm_read a.Picture_read
  m_HoldError : mg "HoldError" = some (.ref a.HoldError)
  xf_BadText : XfC K a.BadText
  xc_BadText : ExcC K a.BadText
  xi_BadText : (PySem.W.clsIn K a.BadText).isSome = true
  xt_BadText : PySem.W.typeIn K (.ref a.BadText) = some (.type "type")
  xm_BadText_HoldError : PySem.W.exmOne K (.ref a.BadText) (.ref a.HoldError) = some true
  xm_BadText_BadText : PySem.W.exmOne K (.ref a.BadText) (.ref a.BadText) = some true
  m_BadText : mg "BadText" = some (.ref a.BadText)
  e_BadText : ErrF K a.BadText a.BadText_init
  a_BadText_line : PySem.W.findIn K (.ref a.BadText) "line" = some none
  a_BadText_word : PySem.W.findIn K (.ref a.BadText) "word" = some none
def SameBut (d : Addr) (H H' : Hp) : Prop := ∀ b o, b ≠ d → H b = some o → H' b = some o
theorem SameBut.of {d : Addr} {H H' : Hp} (s : Same H H') : SameBut d H H' := fun b o _ e => s b o e
theorem SameBut.trans {d : Addr} {H H1 H2 : Hp} (x : SameBut d H H1) (y : SameBut d H1 H2) : SameBut d H H2 := fun b o n e => y b o n (x b o n e)
theorem SameBut.upd {d : Addr} {H : Hp} {o : HO} : SameBut d H (upd H d o) := fun b u n e => by rw [upd_ne n]; exact e
theorem same_new {H : Hp} {p : Addr} {o : HO} (h : H p = none) : Same H (upd H p o) := fun b u e => by rw [upd_ne (ne_of_none e h)]; exact e
theorem dp_ints {K : PySem.W.Frag} {H : Hp} : ∀ ns : List Int, DpAll K H (ns.map V.int) (ns.map PyData.int)
  | [] => .nil
  | i :: r => .cons (.int i) (dp_ints r)
theorem lay_ints : ∀ ns : List Int, PyData.canLayAll0 (ns.map PyData.int) = true ∧ PyData.depthAll (ns.map PyData.int) ≤ 1
  | [] => ⟨rfl, by simp [PyData.depthAll]⟩
  | i :: r => by
    obtain ⟨h1, h2⟩ := lay_ints r
    refine ⟨by simp only [List.map_cons, PyData.canLayAll0, PyData.canLay0, h1]; rfl, ?_⟩
    simp only [List.map_cons, PyData.depthAll, PyData.depth]
    omega
theorem shaped_ints (ns : List Int) : SeqAt.shaped (.list (ns.map PyData.int)) = true := by
  obtain ⟨h1, h2⟩ := lay_ints ns
  refine Bool.and_eq_true_iff.mpr ⟨h1, decide_eq_true ?_⟩
  simp only [PyData.depth]
  omega
theorem eqv_ints (ns : List Int) : PyData.eqv (.list (ns.map PyData.int)) (.list []) = decide (ns = []) := by
  cases ns with
  | nil => simp [PyData.eqv, PyData.eqvAll]
  | cons i r => simp [PyData.eqv, PyData.eqvAll]
/-! ### the pen that draws: its cells' list at c, the index of the next one, the rest of a great cell -/
def Pen (H : Hp) (p c : Addr) (n : Int) : Prop := ∃ (ns : List Int) (b r : Int), H p = some (.lst [.ref c, .int b, .int r]) ∧ H c = some (.lst (ns.map V.int)) ∧ c ≠ p ∧ ns.length ≤ 63 ∧ 0 ≤ b ∧ b ≤ n ∧ 0 ≤ r
theorem Pen.same {H H' : Hp} {p c : Addr} {n : Int} (x : Pen H p c n) (s : Same H H') : Pen H' p c n := by
  obtain ⟨ns, b, r, h1, h2, h⟩ := x
  exact ⟨ns, b, r, s _ _ h1, s _ _ h2, h⟩
theorem atI_any {xs : List V} {z : Int} (h0 : 0 ≤ z) (h1 : z < xs.length) : ∃ v, v ∈ xs ∧ atI xs z = some v := by
  obtain ⟨k, rfl⟩ : ∃ k : Nat, z = (k : Int) := ⟨z.toNat, by omega⟩
  have hk : k < xs.length := by omega
  exact ⟨xs[k], List.getElem_mem hk, atI_nat (List.getElem?_eq_getElem hk)⟩
theorem great0 {c : Int} (h : (10 : Int) ^ Int.toNat 18 ≤ if c < 0 then -c else c) : 0 ≤ 2 * ((if c < 0 then -c else c) - 10 ^ Int.toNat 18) + (if decide (c < 0) = true then 1 else 0) := by
  split <;> split <;> omega
theorem pow1 {c b : Int} (h0 : 0 ≤ b) (h1 : b < 1048576) : (c % 2147483563 + 41929 * b + 685).natAbs < 2 ^ 64 := by
  have a := Int.emod_nonneg c (show (2147483563 : Int) ≠ 0 by decide)
  have d := Int.emod_lt_of_pos c (show (0 : Int) < 2147483563 by decide)
  have e : (2 : Nat) ^ 64 = 18446744073709551616 := by decide
  rw [e]
  omega
theorem pA : (0 : Int) < 2147483563 := by decide
theorem pB : (0 : Int) < 2147483647 := by decide
theorem pC : (0 : Int) < 2147483587 := by decide
theorem lo64 {x : Int} (h : 0 ≤ x) : -(2 ^ 64) < x := by omega
theorem hi64 {x : Int} (h : x < 2147483647) : x < 2 ^ 64 := by omega
theorem pow2 {M b : Int} (m0 : 0 ≤ M) (m1 : M < 2147483647) (h0 : 0 ≤ b) (h1 : b < 1048576) : (M * (2 * b + 105) + 50741 * b * b + 9689).natAbs < 2 ^ 64 := by
  have e : (2 : Nat) ^ 64 = 18446744073709551616 := by decide
  have a1 : M * (2 * b + 105) ≤ 2147483647 * 2097257 := Int.mul_le_mul (by omega) (by omega) (by omega) (by omega)
  have a0 : 0 ≤ M * (2 * b + 105) := Int.mul_nonneg m0 (by omega)
  have b1 : 50741 * b * b ≤ 53205794816 * 1048576 := Int.mul_le_mul (by omega) (by omega) h0 (by omega)
  have b0 : 0 ≤ 50741 * b * b := Int.mul_nonneg (by omega) h0
  rw [e]
  omega
def spPDraw : Sp := fun vs H Q _ => ∃ (p c : Addr) (m n : Int), vs = [.ref p, .int m] ∧ Pen H p c n ∧ n < 1048576 ∧ 0 < m ∧ m < 1073741824 ∧ ∀ (z : Int) (H' : Hp), 0 ≤ z → z < m → SameBut p H H' → Pen H' p c (n + 1) → Q (.int z) H'
section
variable {P : Program} {w : World} {K : PySem.W.Frag} {mg : Str → Option Value} {base : Heap} {a : Adr}
set_option maxHeartbeats 4000000
theorem ok_pdraw (T : Txt K mg a) : FnR P w K mg base CX0 1 a._law_draw spPDraw := by
  refine T.d__law_draw.ok sc__law_draw (fun _ _ _ _ _ _ us hl => match us, hl with | [_, _], _ => rfl) (fun vs H Q E h => by obtain ⟨p, c, m, n, rfl, _⟩ := h; rfl) (fun cdv A outer s H vs Q E hr h => ?_)
  obtain ⟨p, c, m, n, rfl, ⟨ns, b, r, hp, hc, hcp, hns, hb, hbn, hr0⟩, hn, hm, hm2, k⟩ := h
  have hu := hu_of hr
  refine ⟨_, (pss_cons (ps_if (pt_cmpR op_gt (pe_ix ix_list (pv 0) pe_int (fun _ _ => rfl)) pe_int (nomark _))
          (pss_cons (ps_set (i := 2) sc__law_draw.nd rfl (Or.inl rfl) (pe_op op_mod (pe_callTy call_int1 (by rfl) T.n_int (by decide +kernel) (pa_cons (pe_ix ix_list (pv 0) pe_int (fun _ _ => rfl)) pa_nil)) (pv 1)))
          (pss_cons (ps_asg (pe_op op_fdiv (pe_ix ix_list (pv 0) pe_int (fun _ _ => rfl)) (pv 1)) (pg_sub (pv 0) pe_int set_list))
          (pss_one (ps_ret (pv 2)))))
          pss_nil)
      (pss_cons (ps_set (i := 3) sc__law_draw.nd rfl (Or.inl rfl) (pe_ix ix_list (pv 0) pe_int (fun _ _ => rfl)))
      (pss_cons (ps_asg (pe_op op_add (pv 3) pe_int) (pg_sub (pv 0) pe_int set_list))
      (pss_cons (ps_set (i := 4) sc__law_draw.nd rfl (Or.inl rfl) (pe_op op_add (pe_op op_mul pe_int (pv 3)) pe_int))
      (pss_cons (ps_if (pt_cmpR (op_neD hr.units) (pe_ix ix_list (pv 0) pe_int (fun _ _ => rfl)) (pe_lst pa_nil) (nomark _))
          (pss_one (ps_set (i := 4) sc__law_draw.nd rfl (Or.inl rfl) (pe_ix ix_list (pe_ix ix_list (pv 0) pe_int (fun _ _ => rfl)) (pe_op op_mod (pe_callTy call_int1 (by rfl) T.n_int (by decide +kernel) (pa_cons (pv 3) pa_nil)) (pe_callB call_len_seq (by rfl) T.n_len (by decide +kernel) (pa_cons (pe_ix ix_list (pv 0) pe_int (fun _ _ => rfl)) pa_nil))) (fun _ _ => rfl))))
          pss_nil)
      (pss_cons (ps_if (PW.pt (pw_and (pt_cmpR op_lt (pv 3) (pe_callB call_len_seq (by rfl) T.n_len (by decide +kernel) (pa_cons (pe_ix ix_list (pv 0) pe_int (fun _ _ => rfl)) pa_nil)) (nomark _)) (pw_and1 (pt_cmpR op_ge (pe_callB call_abs (by rfl) T.n_abs (by decide +kernel) (pa_cons (pv 4) pa_nil)) (pe_op op_pow pe_int pe_int) (nomark _)))))
          (pss_cons (ps_set (i := 5) sc__law_draw.nd rfl (Or.inl rfl) (pe_op op_add (pe_op op_mul pe_int (pe_op op_sub (pe_callB call_abs (by rfl) T.n_abs (by decide +kernel) (pa_cons (pv 4) pa_nil)) (pe_op op_pow pe_int pe_int))) (pe_callTy call_int1 (by rfl) T.n_int (by decide +kernel) (pa_cons (pe_cmpR op_lt (pv 4) pe_int (nomark _)) pa_nil))))
          (pss_cons (ps_asg (pe_op op_fdiv (pv 5) (pv 1)) (pg_sub (pv 0) pe_int set_list))
          (pss_one (ps_ret (pe_op op_mod (pe_callTy call_int1 (by rfl) T.n_int (by decide +kernel) (pa_cons (pv 5) pa_nil)) (pv 1))))))
          pss_nil)
      (pss_cons (ps_set (i := 6) sc__law_draw.nd rfl (Or.inl rfl) (pe_op op_mod (pe_callTy call_int1 (by rfl) T.n_int (by decide +kernel) (pa_cons (pe_op op_pow (pe_op op_add (pe_op op_add (pe_op op_mod (pe_callTy call_int1 (by rfl) T.n_int (by decide +kernel) (pa_cons (pv 4) pa_nil)) pe_int) (pe_op op_mul pe_int (pv 3))) pe_int) pe_int) pa_nil)) pe_int))
      (pss_cons (ps_set (i := 6) sc__law_draw.nd rfl (Or.inl rfl) (pe_op op_mod (pe_callTy call_int1 (by rfl) T.n_int (by decide +kernel) (pa_cons (pe_op op_pow (pe_op op_add (pe_op op_add (pe_op op_mul (pv 6) (pe_op op_add (pe_op op_mul pe_int (pv 3)) pe_int)) (pe_op op_mul (pe_op op_mul pe_int (pv 3)) (pv 3))) pe_int) pe_int) pa_nil)) pe_int))
      (pss_one (ps_ret (pe_op op_mod (pe_callTy call_int1 (by rfl) T.n_int (by decide +kernel) (pa_cons (pe_op op_fdiv (pv 6) pe_int) pa_nil)) (pv 1)))))))))))), ?_⟩
  refine ⟨_, rfl, p, _, _, _, rfl, rfl, SqL.of hp, rfl, _, _, rfl, rfl, _, rfl, ite2 (fun h0 => ?_) fun h0 => ?_⟩
  · refine ⟨_, rfl, p, _, _, _, rfl, rfl, SqL.of hp, rfl, .inl ⟨_, rfl, _, rfl, _, _, rfl, rfl, hm, ?_⟩⟩
    refine ⟨_, rfl, p, _, _, _, rfl, rfl, SqL.of hp, rfl, _, rfl, _, _, rfl, rfl, ⟨hm, hm2⟩, ?_⟩
    refine ⟨_, rfl, p, _, 2, 2, rfl, rfl, hp, rfl, _, rfl, ?_⟩
    exact k _ _ (Int.emod_nonneg _ (by omega)) (Int.emod_lt_of_pos _ hm) SameBut.upd ⟨ns, b, r / m, upd_same, by rw [upd_ne hcp]; exact hc, hcp, hns, hb, by omega, Int.ediv_nonneg hr0 (by omega)⟩
  · refine ⟨_, rfl, p, _, _, _, rfl, rfl, SqL.of hp, rfl, ?_⟩
    refine ⟨_, rfl, _, _, rfl, rfl, _, rfl, p, _, 1, 1, rfl, rfl, hp, rfl, ?_⟩
    refine ⟨_, rfl, _, _, rfl, rfl, .inl ⟨by decide, by decide⟩, _, _, rfl, rfl, ?_⟩
    have e1 : upd H p (.lst [.ref c, .int (b + 1), .int r]) p = some (.lst [.ref c, .int (b + 1), .int r]) := upd_same
    have c1 : upd H p (.lst [.ref c, .int (b + 1), .int r]) c = some (.lst (ns.map V.int)) := by rw [upd_ne hcp]; exact hc
    have s1 : SameBut p H (upd H p (.lst [.ref c, .int (b + 1), .int r])) := SameBut.upd
    show tSeq _ _ _ _ (upd H p (.lst [.ref c, .int (b + 1), .int r]))
    generalize upd H p (.lst [.ref c, .int (b + 1), .int r]) = H1 at *
    refine ⟨_, rfl, p, _, _, _, rfl, rfl, SqL.of e1, rfl, (by show 0 ≤ sizeLine; decide), fun q hq => ?_⟩
    have mq := same_new (o := .lst []) hq
    refine ⟨.list (ns.map .int), .list [], .lst (SqL.of (mq _ _ c1)) (dp_ints ns), .lst (SqL.of upd_same) .nil, shaped_ints ns, rfl, _, rfl, ?_⟩
    rw [eqv_ints]
    have e2 := mq _ _ e1
    have c2 := mq _ _ c1
    have s2 := s1.trans (SameBut.of mq)
    clear e1 c1 s1 mq hq
    generalize upd H1 q (.lst []) = H2 at *
    refine ite2 (fun hne => ?_) fun hne => ?_
    · have hlen : 0 < ns.length := by
        cases ns with
        | nil => rw [decide_eq_true rfl] at hne; cases hne
        | cons x y => exact Nat.succ_pos _
      obtain ⟨w, hw, hat⟩ := atI_any (xs := ns.map V.int) (z := b % (ns.length : Int)) (Int.emod_nonneg _ (by omega)) (by rw [List.length_map]; exact Int.emod_lt_of_pos _ (by omega))
      obtain ⟨cell, _, rfl⟩ := List.mem_map.mp hw
      refine ⟨_, rfl, p, _, _, _, rfl, rfl, SqL.of e2, rfl, _, rfl, .inl ⟨_, rfl, _, rfl, p, _, _, _, rfl, rfl, SqL.of e2, rfl, c, _, rfl, .inl (SqL.of c2), _, _, rfl, rfl, by rw [List.length_map]; omega, c, _, _, _, rfl, rfl, SqL.of c2, by rw [List.length_map]; exact hat, ?_⟩⟩
      refine ⟨_, rfl, _, rfl, p, _, _, _, rfl, rfl, SqL.of e2, rfl, c, _, rfl, .inl (SqL.of c2), _, _, rfl, rfl, _, rfl, ite2 (fun hb1 => ?_) fun hb1 => ?_⟩
      · refine ⟨_, rfl, _, rfl, _, _, rfl, rfl, ⟨by decide, by decide, by decide⟩, _, _, rfl, rfl, _, rfl, ite2 (fun hb2 => ?_) fun hb2 => ?_⟩
        · refine ⟨_, rfl, _, rfl, _, _, rfl, rfl, ⟨by decide, by decide, by decide⟩, _, _, rfl, rfl, _, _, rfl, rfl, .inl ⟨by decide, by decide⟩, _, rfl, _, _, rfl, rfl, .inr ⟨_, rfl, _, _, rfl, rfl, ?_⟩⟩
          refine ⟨_, rfl, _, rfl, _, _, rfl, rfl, ⟨hm, hm2⟩, _, rfl, p, _, 2, 2, rfl, rfl, e2, rfl, ?_⟩
          refine ⟨_, rfl, .inl ⟨_, rfl, _, rfl, _, _, rfl, rfl, hm, ?_⟩⟩
          have g0 := of_decide_eq_true hb2
          refine k _ _ (Int.emod_nonneg _ (by omega)) (Int.emod_lt_of_pos _ hm) (s2.trans SameBut.upd) ⟨ns, b + 1, _, upd_same, by rw [upd_ne hcp]; exact c2, hcp, hns, by omega, by omega, Int.ediv_nonneg (great0 g0) (by omega)⟩
        · refine ⟨_, rfl, .inl ⟨_, rfl, _, _, rfl, rfl, pA, _, rfl, _, _, rfl, rfl, .inl ⟨by decide, by decide⟩, _, _, rfl, rfl, _, _, rfl, rfl, _, _, rfl, rfl, ⟨by decide, by decide, pow1 hb (by omega)⟩, .inl ⟨_, rfl, _, _, rfl, rfl, pB, ?_⟩⟩⟩
          refine ⟨_, rfl, _, rfl, _, _, rfl, rfl, .inl ⟨by decide, by decide⟩, _, _, rfl, rfl, _, _, rfl, rfl, .inl ⟨lo64 (Int.emod_nonneg _ (by decide)), hi64 (Int.emod_lt_of_pos _ pB)⟩, _, rfl, _, _, rfl, rfl, .inl ⟨by decide, by decide⟩, _, rfl, _, _, rfl, rfl, .inr ⟨lo64 hb, by omega⟩, _, _, rfl, rfl, _, _, rfl, rfl, _, _, rfl, rfl, ⟨by decide, by decide, pow2 (Int.emod_nonneg _ (by decide)) (Int.emod_lt_of_pos _ pB) hb (by omega)⟩, .inl ⟨_, rfl, _, _, rfl, rfl, pC, ?_⟩⟩
          refine ⟨_, rfl, _, _, rfl, rfl, ⟨by decide, by decide⟩, .inl ⟨_, rfl, _, rfl, _, _, rfl, rfl, hm, ?_⟩⟩
          exact k _ _ (Int.emod_nonneg _ (by omega)) (Int.emod_lt_of_pos _ hm) s2 ⟨ns, b + 1, r, e2, c2, hcp, hns, by omega, by omega, hr0⟩
      · refine iteF ?_
        refine ⟨_, rfl, .inl ⟨_, rfl, _, _, rfl, rfl, pA, _, rfl, _, _, rfl, rfl, .inl ⟨by decide, by decide⟩, _, _, rfl, rfl, _, _, rfl, rfl, _, _, rfl, rfl, ⟨by decide, by decide, pow1 hb (by omega)⟩, .inl ⟨_, rfl, _, _, rfl, rfl, pB, ?_⟩⟩⟩
        refine ⟨_, rfl, _, rfl, _, _, rfl, rfl, .inl ⟨by decide, by decide⟩, _, _, rfl, rfl, _, _, rfl, rfl, .inl ⟨lo64 (Int.emod_nonneg _ (by decide)), hi64 (Int.emod_lt_of_pos _ pB)⟩, _, rfl, _, _, rfl, rfl, .inl ⟨by decide, by decide⟩, _, rfl, _, _, rfl, rfl, .inr ⟨lo64 hb, by omega⟩, _, _, rfl, rfl, _, _, rfl, rfl, _, _, rfl, rfl, ⟨by decide, by decide, pow2 (Int.emod_nonneg _ (by decide)) (Int.emod_lt_of_pos _ pB) hb (by omega)⟩, .inl ⟨_, rfl, _, _, rfl, rfl, pC, ?_⟩⟩
        refine ⟨_, rfl, _, _, rfl, rfl, ⟨by decide, by decide⟩, .inl ⟨_, rfl, _, rfl, _, _, rfl, rfl, hm, ?_⟩⟩
        exact k _ _ (Int.emod_nonneg _ (by omega)) (Int.emod_lt_of_pos _ hm) s2 ⟨ns, b + 1, r, e2, c2, hcp, hns, by omega, by omega, hr0⟩
    · skip
      refine ⟨_, rfl, _, rfl, p, _, _, _, rfl, rfl, SqL.of e2, rfl, c, _, rfl, .inl (SqL.of c2), _, _, rfl, rfl, _, rfl, ite2 (fun hb1 => ?_) fun hb1 => ?_⟩
      · refine ⟨_, rfl, _, rfl, _, _, rfl, rfl, ⟨by decide, by decide, by decide⟩, _, _, rfl, rfl, _, rfl, ite2 (fun hb2 => ?_) fun hb2 => ?_⟩
        · refine ⟨_, rfl, _, rfl, _, _, rfl, rfl, ⟨by decide, by decide, by decide⟩, _, _, rfl, rfl, _, _, rfl, rfl, .inl ⟨by decide, by decide⟩, _, rfl, _, _, rfl, rfl, .inr ⟨_, rfl, _, _, rfl, rfl, ?_⟩⟩
          refine ⟨_, rfl, _, rfl, _, _, rfl, rfl, ⟨hm, hm2⟩, _, rfl, p, _, 2, 2, rfl, rfl, e2, rfl, ?_⟩
          refine ⟨_, rfl, .inl ⟨_, rfl, _, rfl, _, _, rfl, rfl, hm, ?_⟩⟩
          have g0 := of_decide_eq_true hb2
          refine k _ _ (Int.emod_nonneg _ (by omega)) (Int.emod_lt_of_pos _ hm) (s2.trans SameBut.upd) ⟨ns, b + 1, _, upd_same, by rw [upd_ne hcp]; exact c2, hcp, hns, by omega, by omega, Int.ediv_nonneg (great0 g0) (by omega)⟩
        · refine ⟨_, rfl, .inl ⟨_, rfl, _, _, rfl, rfl, pA, _, rfl, _, _, rfl, rfl, .inl ⟨by decide, by decide⟩, _, _, rfl, rfl, _, _, rfl, rfl, _, _, rfl, rfl, ⟨by decide, by decide, pow1 hb (by omega)⟩, .inl ⟨_, rfl, _, _, rfl, rfl, pB, ?_⟩⟩⟩
          refine ⟨_, rfl, _, rfl, _, _, rfl, rfl, .inl ⟨by decide, by decide⟩, _, _, rfl, rfl, _, _, rfl, rfl, .inl ⟨lo64 (Int.emod_nonneg _ (by decide)), hi64 (Int.emod_lt_of_pos _ pB)⟩, _, rfl, _, _, rfl, rfl, .inl ⟨by decide, by decide⟩, _, rfl, _, _, rfl, rfl, .inr ⟨lo64 hb, by omega⟩, _, _, rfl, rfl, _, _, rfl, rfl, _, _, rfl, rfl, ⟨by decide, by decide, pow2 (Int.emod_nonneg _ (by decide)) (Int.emod_lt_of_pos _ pB) hb (by omega)⟩, .inl ⟨_, rfl, _, _, rfl, rfl, pC, ?_⟩⟩
          refine ⟨_, rfl, _, _, rfl, rfl, ⟨by decide, by decide⟩, .inl ⟨_, rfl, _, rfl, _, _, rfl, rfl, hm, ?_⟩⟩
          exact k _ _ (Int.emod_nonneg _ (by omega)) (Int.emod_lt_of_pos _ hm) s2 ⟨ns, b + 1, r, e2, c2, hcp, hns, by omega, by omega, hr0⟩
      · refine iteF ?_
        refine ⟨_, rfl, .inl ⟨_, rfl, _, _, rfl, rfl, pA, _, rfl, _, _, rfl, rfl, .inl ⟨by decide, by decide⟩, _, _, rfl, rfl, _, _, rfl, rfl, _, _, rfl, rfl, ⟨by decide, by decide, pow1 hb (by omega)⟩, .inl ⟨_, rfl, _, _, rfl, rfl, pB, ?_⟩⟩⟩
        refine ⟨_, rfl, _, rfl, _, _, rfl, rfl, .inl ⟨by decide, by decide⟩, _, _, rfl, rfl, _, _, rfl, rfl, .inl ⟨lo64 (Int.emod_nonneg _ (by decide)), hi64 (Int.emod_lt_of_pos _ pB)⟩, _, rfl, _, _, rfl, rfl, .inl ⟨by decide, by decide⟩, _, rfl, _, _, rfl, rfl, .inr ⟨lo64 hb, by omega⟩, _, _, rfl, rfl, _, _, rfl, rfl, _, _, rfl, rfl, ⟨by decide, by decide, pow2 (Int.emod_nonneg _ (by decide)) (Int.emod_lt_of_pos _ pB) hb (by omega)⟩, .inl ⟨_, rfl, _, _, rfl, rfl, pC, ?_⟩⟩
        refine ⟨_, rfl, _, _, rfl, rfl, ⟨by decide, by decide⟩, .inl ⟨_, rfl, _, rfl, _, _, rfl, rfl, hm, ?_⟩⟩
        exact k _ _ (Int.emod_nonneg _ (by omega)) (Int.emod_lt_of_pos _ hm) s2 ⟨ns, b + 1, r, e2, c2, hcp, hns, by omega, by omega, hr0⟩
theorem cut63 {ns : List Int} (h : ns.length ≤ 63) : cutV (ns.map V.int) none (some 63) = ns.map V.int := by
  have e1 : HT.sIx (ns.map V.int).length 0 none = 0 := rfl
  have e2 : (ns.map V.int).length ≤ HT.sIx (ns.map V.int).length (ns.map V.int).length (some 63) := by
    rw [List.length_map]
    unfold HT.sIx
    simp
    omega
  unfold cutV
  rw [e1, List.drop_zero, Nat.sub_zero]
  exact List.take_of_length_le e2
def spPen (K : PySem.W.Frag) : Sp := fun vs H Q _ => ∃ (sa : Addr) (ns : List Int), vs = [.ref sa] ∧ SqL K H sa (ns.map V.int) ∧ ns.length ≤ 63 ∧ ∀ (p c : Addr) (H' : Hp), Same H H' → H p = none → Pen H' p c 0 → Q (.ref p) H'
theorem ok_pen (T : Txt K mg a) : FnR P w K mg base CX0 1 a._law_pen (spPen K) := by
  refine T.d__law_pen.ok sc__law_pen (fun _ _ _ _ _ _ us hl => match us, hl with | [_], _ => rfl) (fun vs H Q E h => by obtain ⟨sa, ns, rfl, _⟩ := h; rfl) (fun cdv A outer s H vs Q E hr h => ?_)
  obtain ⟨sa, ns, rfl, hS, hns, k⟩ := h
  refine ⟨_, (pss_one (ps_ret (pe_lst (pa_cons (pe_callTy call_list_of (by rfl) T.n_list (by decide +kernel) (pa_cons (pe_slice sl_list (pv 0) po_none (po_some pe_int)) pa_nil)) (pa_cons pe_int (pa_cons pe_int pa_nil)))))), ?_⟩
  refine ⟨_, rfl, _, rfl, sa, _, rfl, hS, fun q hq => ?_⟩
  rw [cut63 hns]
  refine ⟨q, _, rfl, .inl (SqL.of upd_same), fun c hc => ⟨(by show 3 ≤ sizeLine; decide), fun p hp => ?_⟩⟩
  have m1 := same_new (o := .lst (ns.map V.int)) hq
  have m2 := same_new (o := .lst (ns.map V.int)) hc
  have m3 := same_new (o := .lst [.ref c, .int 0, .int 0]) hp
  have ec : upd (upd (upd H q (.lst (ns.map V.int))) c (.lst (ns.map V.int))) p (.lst [.ref c, .int 0, .int 0]) c = some (.lst (ns.map V.int)) := m3 _ _ upd_same
  refine k p c _ (m1.trans (m2.trans m3)) ?_ ⟨ns, 0, 0, upd_same, ec, ?_, hns, by decide, by decide, by decide⟩
  · cases e : H p with
    | none => rfl
    | some o =>
      have z := m2 _ _ (m1 _ _ e)
      rw [hp] at z
      cases z
  · intro e
    rw [e, upd_same] at hp
    cases hp
def spPick : Sp := fun vs H Q _ => ∃ (p c l : Addr) (n : Int) (xs : List V), vs = [.ref p, .ref l] ∧ Pen H p c n ∧ n < 1048576 ∧ H l = some (.lst xs) ∧ l ≠ p ∧ 0 < xs.length ∧ xs.length < 1073741824 ∧ ∀ (v : V) (H' : Hp), v ∈ xs → SameBut p H H' → Pen H' p c (n + 1) → Q v H'
theorem ok_pick (T : Txt K mg a) : FnR P w K mg base CX0 2 a._law_pick spPick := by
  have G__law_draw : FnR P w K mg base CX0 1 a._law_draw spPDraw := ok_pdraw T
  refine T.d__law_pick.ok sc__law_pick (fun _ _ _ _ _ _ us hl => match us, hl with | [_, _], _ => rfl) (fun vs H Q E h => by obtain ⟨p, c, l, n, xs, rfl, _⟩ := h; rfl) (fun cdv A outer s H vs Q E hr h => ?_)
  obtain ⟨p, c, l, n, xs, rfl, hP, hn, hl, hlp, h0, h1, k⟩ := h
  refine ⟨_, (pss_one (ps_ret (pe_ix ix_list (pv 1) (pe_callR G__law_draw (hr.mono (by decide)) T.m__law_draw T.k__law_draw pass0 (pa_cons (pv 0) (pa_cons (pe_callB call_len_seq (by rfl) T.n_len (by decide +kernel) (pa_cons (pv 1) pa_nil)) pa_nil))) (fun _ _ => rfl)))), ?_⟩
  refine ⟨_, rfl, _, rfl, _, rfl, l, _, rfl, .inl (SqL.of hl), p, c, xs.length, n, rfl, hP, hn, by omega, by omega, fun z H' z0 z1 sB hP' => ?_⟩
  obtain ⟨v, hv, hat⟩ := atI_any (xs := xs) z0 z1
  exact ⟨l, _, _, _, rfl, rfl, SqL.of (sB _ _ hlp hl), hat, k v H' hv sB hP'⟩
end
end Pf
end
section
namespace Pf
open PySem PySem.Spec PyProof.Rows L2 Ow StX
open SX (S)
def DigL (r : List Nat) : Prop := ∀ c ∈ r, 48 ≤ c ∧ c ≤ 57
structure Good (w : Nat) (rs : List (List Nat)) : Prop where
  l0 : 1 ≤ rs.length
  l1 : rs.length ≤ 200
  w0 : 1 ≤ w
  w1 : w ≤ 200
  row : ∀ r ∈ rs, r.length = w ∧ DigL r
abbrev rowsV (rs : List (List Nat)) : List V := rs.map fun r => V.str (S r)
def Pic (H : Hp) (C x : Addr) (rs : List (List Nat)) : Prop := ∃ dx t, H x = some (.ins C dx [("_rows", .ref t)]) ∧ H t = some (.tup (rowsV rs))
theorem Pic.same {H H' : Hp} {C x : Addr} {rs : List (List Nat)} (p : Pic H C x rs) (s : Same H H') : Pic H' C x rs := by
  obtain ⟨dx, t, h1, h2⟩ := p
  exact ⟨dx, t, s _ _ h1, s _ _ h2⟩
theorem Pic.ins {H : Hp} {C x : Addr} {rs : List (List Nat)} (p : Pic H C x rs) : InsAt H x C := by
  obtain ⟨dx, t, h1, h2⟩ := p
  exact ⟨dx, _, h1⟩
theorem dig_isDigit {c : Nat} (h : 48 ≤ c ∧ c ≤ 57) : Unicode.isDigit c = true := by
  obtain ⟨h1, h2⟩ := h
  rcases (by omega : c = 48 ∨ c = 49 ∨ c = 50 ∨ c = 51 ∨ c = 52 ∨ c = 53 ∨ c = 54 ∨ c = 55 ∨ c = 56 ∨ c = 57) with rfl | rfl | rfl | rfl | rfl | rfl | rfl | rfl | rfl | rfl <;> decide +kernel
theorem digL_ascii {r : List Nat} (h : DigL r) : Txt.isascii (S r) = true := by
  show (r.toArray.all fun c => decide (c < 128)) = true
  rw [← Array.all_toList]
  exact List.all_eq_true.mpr fun c hc => decide_eq_true (by have := h c hc; omega)
theorem digL_digit {r : List Nat} (h : DigL r) (h0 : 1 ≤ r.length) : Txt.isdigit (S r) = true := by
  show (decide ((S r).length > 0) && r.toArray.all fun c => Unicode.isDigit c) = true
  rw [← Array.all_toList, SX.S_len, Bool.and_eq_true]
  exact ⟨decide_eq_true (by omega), List.all_eq_true.mpr fun c hc => dig_isDigit (h c hc)⟩
theorem size200 {n : Nat} (h : n ≤ 200) : n ≤ sizeLine := Nat.le_trans h (by decide +kernel)
def spIsRow : Sp := fun vs H Q _ => ∃ (r : List Nat) (m : Int), vs = [.str (S r), .int m] ∧ DigL r ∧ 1 ≤ r.length ∧ r.length ≤ 200 ∧ (r.length : Int) ≤ m ∧ Q (.bl true) H
def spWrong (K : PySem.W.Frag) : Sp := fun vs H Q _ => ∃ (l : Addr) (w : Nat) (rs : List (List Nat)), vs = [.ref l, .int 200] ∧ Good w rs ∧ (SqL K H l (rowsV rs) ∨ SqT K H l (rowsV rs)) ∧ ∀ H', Same H H' → Q .non H'
end Pf
end
section
namespace Pf
open PySem PySem.Spec PyProof.Rows L2 Ow StX
open SX (S)
theorem rowsV_get {rs : List (List Nat)} {i : Nat} {x : V} (h : (rowsV rs)[i]? = some x) : ∃ r, rs[i]? = some r ∧ x = .str (S r) := by
  rw [List.getElem?_map] at h
  cases q : rs[i]? with
  | none => rw [q] at h; cases h
  | some r => rw [q] at h; cases h; exact ⟨r, rfl, rfl⟩
theorem Good.at_ {w i : Nat} {rs : List (List Nat)} {r : List Nat} (g : Good w rs) (h : rs[i]? = some r) : r.length = w ∧ DigL r := g.row r (List.mem_of_getElem? h)
theorem at0 {rs : List (List Nat)} {w : Nat} (g : Good w rs) : ∃ r, rs[0]? = some r ∧ atI (rowsV rs) 0 = some (.str (S r)) := by
  cases rs with
  | nil => exact absurd g.l0 (by decide)
  | cons r t => exact ⟨r, rfl, atI_nat (j := 0) rfl⟩
theorem Good.len {w : Nat} {rs : List (List Nat)} {r : List Nat} (g : Good w rs) (h : r ∈ rs) : r.length ≤ 200 := by rw [(g.row r h).1]; exact g.w1
theorem rowsV_len (rs : List (List Nat)) : (rowsV rs).length = rs.length := List.length_map ..
section
variable {P : Program} {w : World} {K : PySem.W.Frag} {mg : Str → Option Value} {base : Heap} {a : Adr}
set_option maxHeartbeats 4000000
theorem ok_is_row (T : Txt K mg a) : FnR P w K mg base CX0 1 a.is_row spIsRow := by
  refine T.d_is_row.ok sc_is_row (fun _ _ _ _ _ _ us hl => match us, hl with | [_, _], _ => rfl) (fun vs H Q E h => by obtain ⟨r, m, rfl, _⟩ := h; rfl) (fun cdv A outer s H vs Q E hr h => ?_)
  obtain ⟨r, m, rfl, hd, h0, hl, hm, k⟩ := h
  refine ⟨_, (pss_one (ps_ret (pe_and (pe_callB call_isi (by rfl) T.n_isinstance (by decide +kernel) (pa_cons (pv 0) (pa_cons (pe_bltn (v := .ty "str") (by rfl) T.n_str (by decide +kernel) rfl) pa_nil))) (pe_and (pe_m0 PySem.F.slot_str_isascii PySem.F.type_str_isascii mt_isascii (pv 0)) (pe_and (pe_m0 PySem.F.slot_str_isdigit PySem.F.type_str_isdigit mt_isdigit (pv 0)) (pe_one (pe_cmpR op_le (pe_callB call_len_str (by rfl) T.n_len (by decide +kernel) (pa_cons (pv 0) pa_nil)) (pv 1) (nomark _)))))))), ?_⟩
  simp only [tSeq, tIfS, tTest, tB, tAnd, tOr, tNot, tAndV, tOrV, tNotV, tIf, tOp, tUn, tChain, rEq, rNe, rI0, rI, rU, tCallR, tCons, tNil, tC, tVar, tRet, tRetN, tTup_k, tLst_k, tCB, tNext, tAsg, gName, gTup, gCons, gNil, tDrop, tPar, tFld, ClX.tCVal, tPropR, rBin, rBinT, rNeOwn, rSetL_k, gSub, tMakeK_k, tMethR, rInO, tDNewK_k, tYes, wipe, tMakeR_k, tSMeth, tSMethK, rMulS, decide_true, tNever, sFld, rIsiT, and_false, rListOf, rTupOf, rLenSeq, rIxL, rIxT, rIxS, rCat_k, rRep_k, rSlL_k, rSlS, rNewStrs_k, rAppend_k, tBM, tBM0, tM0, tM1, tSl, tNoPart, tPart, tLc_k, tFor_k, iList, iTup, iEnumT, iRng1, iRng2, iRng2L, iStr, L2.start, List.map, List.length_cons, List.length_nil, List.cons_append, List.nil_append, List.getElem?_cons_succ, List.getElem?_cons_zero, Option.some.injEq, V.int.injEq, V.bl.injEq, V.str.injEq, V.ref.injEq, exists_eq_left', exists_eq_left, and_assoc, exists_and_left, exists_eq, exists_eq', true_and, and_true, List.set_cons_zero, List.set_cons_succ, List.set, decide_eq_true_eq, Bool.not_eq_true', if_true, if_false, rIx, cx_K, nox_K, List.replicate_succ, List.replicate_zero, Nat.reduceSub, Bool.true_eq_false, Bool.false_eq_true, Nat.reduceAdd, List.cons.injEq, reduceCtorEq, false_and, false_or, or_false, tAug, rSetO, rJoin, rNewStrs_k, tMakeL, rStrO, ClX.tCMeth]
  refine ⟨_, _, _, _, true, rfl, .ty _, .base (.str _), kit_self, _, rfl, ?_⟩
  simp only [digL_ascii hd, digL_digit hd h0, tSeq, tIfS, tTest, tB, tAnd, tOr, tNot, tAndV, tOrV, tNotV, tIf, tOp, tUn, tChain, rEq, rNe, rI0, rI, rU, tCallR, tCons, tNil, tC, tVar, tRet, tRetN, tTup_k, tLst_k, tCB, tNext, tAsg, gName, gTup, gCons, gNil, tDrop, tPar, tFld, ClX.tCVal, tPropR, rBin, rBinT, rNeOwn, rSetL_k, gSub, tMakeK_k, tMethR, rInO, tDNewK_k, tYes, wipe, tMakeR_k, tSMeth, tSMethK, rMulS, decide_true, tNever, sFld, rIsiT, and_false, rListOf, rTupOf, rLenSeq, rIxL, rIxT, rIxS, rCat_k, rRep_k, rSlL_k, rSlS, rNewStrs_k, rAppend_k, tBM, tBM0, tM0, tM1, tSl, tNoPart, tPart, tLc_k, tFor_k, iList, iTup, iEnumT, iRng1, iRng2, iRng2L, iStr, L2.start, List.map, List.length_cons, List.length_nil, List.cons_append, List.nil_append, List.getElem?_cons_succ, List.getElem?_cons_zero, Option.some.injEq, V.int.injEq, V.bl.injEq, V.str.injEq, V.ref.injEq, exists_eq_left', exists_eq_left, and_assoc, exists_and_left, exists_eq, exists_eq', true_and, and_true, List.set_cons_zero, List.set_cons_succ, List.set, decide_eq_true_eq, Bool.not_eq_true', if_true, if_false, rIx, cx_K, nox_K, List.replicate_succ, List.replicate_zero, Nat.reduceSub, Bool.true_eq_false, Bool.false_eq_true, Nat.reduceAdd, List.cons.injEq, reduceCtorEq, false_and, false_or, or_false, tAug, rSetO, rJoin, rNewStrs_k, tMakeL, rStrO, ClX.tCMeth]
  rw [SX.S_len, decide_eq_true hm]
  exact ⟨size200 hl, k⟩
theorem ok_wrong_row (T : Txt K mg a) : FnR P w K mg base CX0 2 a.wrong_row (spWrong K) := by
  have G_is_row : FnR P w K mg base CX0 1 a.is_row spIsRow := ok_is_row T
  refine T.d_wrong_row.ok sc_wrong_row (fun _ _ _ _ _ _ us hl => match us, hl with | [_, _], _ => rfl) (fun vs H Q E h => by obtain ⟨l, w, rs, rfl, _⟩ := h; rfl) (fun cdv A outer s H vs Q E hr h => ?_)
  obtain ⟨l, wd, rs, rfl, g, hs, k⟩ := h
  refine ⟨_, (pss_cons (ps_for PassesOwn.never rfl (pi_enumT (by rfl) T.n_enumerate (pa_cons (pv 0) pa_nil)) (pg_tup rfl (pgs_cons (pg_name (i := 2) sc_wrong_row.nd rfl (Or.inl rfl)) (pgs_cons (pg_name (i := 3) sc_wrong_row.nd rfl (Or.inl rfl)) pgs_nil)))
          (pss_one (ps_if (PW.pt (pw_or (pt_not (pt_val (pe_callR G_is_row (hr.mono (by decide)) T.m_is_row T.k_is_row pass0 (pa_cons (pv 3) (pa_cons (pv 1) pa_nil))))) (pw_or1 (pt_cmpR op_ne (pe_callB call_len_str (by rfl) T.n_len (by decide +kernel) (pa_cons (pv 3) pa_nil)) (pe_callB call_len_str (by rfl) T.n_len (by decide +kernel) (pa_cons (pe_ix ix_seq (pv 0) pe_int (fun _ _ => rfl)) pa_nil)) (nomark _)))))
              (pss_one (ps_ret (pv 2)))
              pss_nil)))
      (pss_one (ps_ret pe_non))), ?_⟩
  simp only [tSeq, tIfS, tTest, tB, tAnd, tOr, tNot, tAndV, tOrV, tNotV, tIf, tOp, tUn, tChain, rEq, rNe, rI0, rI, rU, tCallR, tCons, tNil, tC, tVar, tRet, tRetN, tTup_k, tLst_k, tCB, tNext, tAsg, gName, gTup, gCons, gNil, tDrop, tPar, tFld, ClX.tCVal, tPropR, rBin, rBinT, rNeOwn, rSetL_k, gSub, tMakeK_k, tMethR, rInO, tDNewK_k, tYes, wipe, tMakeR_k, tSMeth, tSMethK, rMulS, decide_true, tNever, sFld, rIsiT, and_false, rListOf, rTupOf, rLenSeq, rIxL, rIxT, rIxS, rCat_k, rRep_k, rSlL_k, rSlS, rNewStrs_k, rAppend_k, tBM, tBM0, tM0, tM1, tSl, tNoPart, tPart, tLc_k, tFor_k, iList, iTup, iEnumT, iRng1, iRng2, iRng2L, iStr, L2.start, List.map, List.length_cons, List.length_nil, List.cons_append, List.nil_append, List.getElem?_cons_succ, List.getElem?_cons_zero, Option.some.injEq, V.int.injEq, V.bl.injEq, V.str.injEq, V.ref.injEq, exists_eq_left', exists_eq_left, and_assoc, exists_and_left, exists_eq, exists_eq', true_and, and_true, List.set_cons_zero, List.set_cons_succ, List.set, decide_eq_true_eq, Bool.not_eq_true', if_true, if_false, rIx, cx_K, nox_K, List.replicate_succ, List.replicate_zero, Nat.reduceSub, Bool.true_eq_false, Bool.false_eq_true, Nat.reduceAdd, List.cons.injEq, reduceCtorEq, false_and, false_or, or_false, tAug, rSetO, rJoin, rNewStrs_k, tMakeL, rStrO, ClX.tCMeth]
  obtain ⟨r0, hr0, ha0⟩ := at0 g
  have h0 : ∃ (x2 x3 : Option V), Same H H ∧ ([some (V.ref l), some (.int 200), none, none] : List (Option V)) = [some (.ref l), some (.int 200), x2, x3] := ⟨_, _, Same.refl H, rfl⟩
  rcases hs with hs | hs
  · refine ⟨_, .inl ⟨hs, kFor.it walk_enum (fun _ σ H' => ∃ (x2 x3 : Option V), Same H H' ∧ σ = [some (.ref l), some (.int 200), x2, x3]) h0 (fun _ _ H' _ q => by obtain ⟨_, _, s1, _⟩ := q; exact s1.seq hs) (fun i x σ H1 H2 hi hP hY => ?_) fun σ H' q => by obtain ⟨_, _, s1, _⟩ := q; exact k _ s1⟩⟩
    obtain ⟨at_, rw_, s1, rfl⟩ := hP
    obtain ⟨t1, y1, y2, rfl, ht1, rfl, e1, e2⟩ := hY
    cases e1
    obtain ⟨r, hri, rfl⟩ := rowsV_get e2
    have f1 := fresh_upd (o := .tup [.int (i : Nat), .str (S r)]) ht1
    obtain ⟨hw, hd⟩ := g.at_ hri
    have s2 := s1.trans f1.same
    refine ⟨t1, _, rfl, .inl (.inl f1.at_), rfl, ?_⟩
    simp only [tSeq, tIfS, tTest, tB, tAnd, tOr, tNot, tAndV, tOrV, tNotV, tIf, tOp, tUn, tChain, rEq, rNe, rI0, rI, rU, tCallR, tCons, tNil, tC, tVar, tRet, tRetN, tTup_k, tLst_k, tCB, tNext, tAsg, gName, gTup, gCons, gNil, tDrop, tPar, tFld, ClX.tCVal, tPropR, rBin, rBinT, rNeOwn, rSetL_k, gSub, tMakeK_k, tMethR, rInO, tDNewK_k, tYes, wipe, tMakeR_k, tSMeth, tSMethK, rMulS, decide_true, tNever, sFld, rIsiT, and_false, rListOf, rTupOf, rLenSeq, rIxL, rIxT, rIxS, rCat_k, rRep_k, rSlL_k, rSlS, rNewStrs_k, rAppend_k, tBM, tBM0, tM0, tM1, tSl, tNoPart, tPart, tLc_k, tFor_k, iList, iTup, iEnumT, iRng1, iRng2, iRng2L, iStr, L2.start, List.map, List.length_cons, List.length_nil, List.cons_append, List.nil_append, List.getElem?_cons_succ, List.getElem?_cons_zero, Option.some.injEq, V.int.injEq, V.bl.injEq, V.str.injEq, V.ref.injEq, exists_eq_left', exists_eq_left, and_assoc, exists_and_left, exists_eq, exists_eq', true_and, and_true, List.set_cons_zero, List.set_cons_succ, List.set, decide_eq_true_eq, Bool.not_eq_true', if_true, if_false, rIx, cx_K, nox_K, List.replicate_succ, List.replicate_zero, Nat.reduceSub, Bool.true_eq_false, Bool.false_eq_true, Nat.reduceAdd, List.cons.injEq, reduceCtorEq, false_and, false_or, or_false, tAug, rSetO, rJoin, rNewStrs_k, tMakeL, rStrO, ClX.tCMeth]
    refine ⟨r, 200, rfl, hd, by rw [hw]; exact g.w0, by rw [hw]; exact g.w1, by rw [hw]; have := g.w1; omega, ?_⟩
    simp only [tSeq, tIfS, tTest, tB, tAnd, tOr, tNot, tAndV, tOrV, tNotV, tIf, tOp, tUn, tChain, rEq, rNe, rI0, rI, rU, tCallR, tCons, tNil, tC, tVar, tRet, tRetN, tTup_k, tLst_k, tCB, tNext, tAsg, gName, gTup, gCons, gNil, tDrop, tPar, tFld, ClX.tCVal, tPropR, rBin, rBinT, rNeOwn, rSetL_k, gSub, tMakeK_k, tMethR, rInO, tDNewK_k, tYes, wipe, tMakeR_k, tSMeth, tSMethK, rMulS, decide_true, tNever, sFld, rIsiT, and_false, rListOf, rTupOf, rLenSeq, rIxL, rIxT, rIxS, rCat_k, rRep_k, rSlL_k, rSlS, rNewStrs_k, rAppend_k, tBM, tBM0, tM0, tM1, tSl, tNoPart, tPart, tLc_k, tFor_k, iList, iTup, iEnumT, iRng1, iRng2, iRng2L, iStr, L2.start, List.map, List.length_cons, List.length_nil, List.cons_append, List.nil_append, List.getElem?_cons_succ, List.getElem?_cons_zero, Option.some.injEq, V.int.injEq, V.bl.injEq, V.str.injEq, V.ref.injEq, exists_eq_left', exists_eq_left, and_assoc, exists_and_left, exists_eq, exists_eq', true_and, and_true, List.set_cons_zero, List.set_cons_succ, List.set, decide_eq_true_eq, Bool.not_eq_true', if_true, if_false, rIx, cx_K, nox_K, List.replicate_succ, List.replicate_zero, Nat.reduceSub, Bool.true_eq_false, Bool.false_eq_true, Nat.reduceAdd, List.cons.injEq, reduceCtorEq, false_and, false_or, or_false, tAug, rSetO, rJoin, rNewStrs_k, tMakeL, rStrO, ClX.tCMeth]
    have hw0 := (g.at_ hr0).1
    have q1 := g.w1
    refine ⟨by rw [SX.S_len, hw]; exact size200 q1, ?_⟩
    first
      | refine .inl ⟨_, Same.seq s2 hs, _, ha0, _, rfl, by rw [SX.S_len, hw0]; exact size200 q1, rfl, ?_⟩
      | refine .inr (.inl ⟨_, Same.tup s2 hs, _, ha0, _, rfl, by rw [SX.S_len, hw0]; exact size200 q1, rfl, ?_⟩)
    rw [SX.S_len, SX.S_len, hw, hw0, decide_eq_true rfl]
    exact s2
  · refine ⟨_, .inr ⟨hs, kFor.it walk_enumT (fun _ σ H' => ∃ (x2 x3 : Option V), Same H H' ∧ σ = [some (.ref l), some (.int 200), x2, x3]) h0 (fun _ _ H' _ q => by obtain ⟨_, _, s1, _⟩ := q; exact Same.tup s1 hs) (fun i x σ H1 H2 hi hP hY => ?_) fun σ H' q => by obtain ⟨_, _, s1, _⟩ := q; exact k _ s1⟩⟩
    obtain ⟨at_, rw_, s1, rfl⟩ := hP
    obtain ⟨t1, y1, y2, rfl, ht1, rfl, e1, e2⟩ := hY
    cases e1
    obtain ⟨r, hri, rfl⟩ := rowsV_get e2
    have f1 := fresh_upd (o := .tup [.int (i : Nat), .str (S r)]) ht1
    obtain ⟨hw, hd⟩ := g.at_ hri
    have s2 := s1.trans f1.same
    refine ⟨t1, _, rfl, .inl (.inl f1.at_), rfl, ?_⟩
    simp only [tSeq, tIfS, tTest, tB, tAnd, tOr, tNot, tAndV, tOrV, tNotV, tIf, tOp, tUn, tChain, rEq, rNe, rI0, rI, rU, tCallR, tCons, tNil, tC, tVar, tRet, tRetN, tTup_k, tLst_k, tCB, tNext, tAsg, gName, gTup, gCons, gNil, tDrop, tPar, tFld, ClX.tCVal, tPropR, rBin, rBinT, rNeOwn, rSetL_k, gSub, tMakeK_k, tMethR, rInO, tDNewK_k, tYes, wipe, tMakeR_k, tSMeth, tSMethK, rMulS, decide_true, tNever, sFld, rIsiT, and_false, rListOf, rTupOf, rLenSeq, rIxL, rIxT, rIxS, rCat_k, rRep_k, rSlL_k, rSlS, rNewStrs_k, rAppend_k, tBM, tBM0, tM0, tM1, tSl, tNoPart, tPart, tLc_k, tFor_k, iList, iTup, iEnumT, iRng1, iRng2, iRng2L, iStr, L2.start, List.map, List.length_cons, List.length_nil, List.cons_append, List.nil_append, List.getElem?_cons_succ, List.getElem?_cons_zero, Option.some.injEq, V.int.injEq, V.bl.injEq, V.str.injEq, V.ref.injEq, exists_eq_left', exists_eq_left, and_assoc, exists_and_left, exists_eq, exists_eq', true_and, and_true, List.set_cons_zero, List.set_cons_succ, List.set, decide_eq_true_eq, Bool.not_eq_true', if_true, if_false, rIx, cx_K, nox_K, List.replicate_succ, List.replicate_zero, Nat.reduceSub, Bool.true_eq_false, Bool.false_eq_true, Nat.reduceAdd, List.cons.injEq, reduceCtorEq, false_and, false_or, or_false, tAug, rSetO, rJoin, rNewStrs_k, tMakeL, rStrO, ClX.tCMeth]
    refine ⟨r, 200, rfl, hd, by rw [hw]; exact g.w0, by rw [hw]; exact g.w1, by rw [hw]; have := g.w1; omega, ?_⟩
    simp only [tSeq, tIfS, tTest, tB, tAnd, tOr, tNot, tAndV, tOrV, tNotV, tIf, tOp, tUn, tChain, rEq, rNe, rI0, rI, rU, tCallR, tCons, tNil, tC, tVar, tRet, tRetN, tTup_k, tLst_k, tCB, tNext, tAsg, gName, gTup, gCons, gNil, tDrop, tPar, tFld, ClX.tCVal, tPropR, rBin, rBinT, rNeOwn, rSetL_k, gSub, tMakeK_k, tMethR, rInO, tDNewK_k, tYes, wipe, tMakeR_k, tSMeth, tSMethK, rMulS, decide_true, tNever, sFld, rIsiT, and_false, rListOf, rTupOf, rLenSeq, rIxL, rIxT, rIxS, rCat_k, rRep_k, rSlL_k, rSlS, rNewStrs_k, rAppend_k, tBM, tBM0, tM0, tM1, tSl, tNoPart, tPart, tLc_k, tFor_k, iList, iTup, iEnumT, iRng1, iRng2, iRng2L, iStr, L2.start, List.map, List.length_cons, List.length_nil, List.cons_append, List.nil_append, List.getElem?_cons_succ, List.getElem?_cons_zero, Option.some.injEq, V.int.injEq, V.bl.injEq, V.str.injEq, V.ref.injEq, exists_eq_left', exists_eq_left, and_assoc, exists_and_left, exists_eq, exists_eq', true_and, and_true, List.set_cons_zero, List.set_cons_succ, List.set, decide_eq_true_eq, Bool.not_eq_true', if_true, if_false, rIx, cx_K, nox_K, List.replicate_succ, List.replicate_zero, Nat.reduceSub, Bool.true_eq_false, Bool.false_eq_true, Nat.reduceAdd, List.cons.injEq, reduceCtorEq, false_and, false_or, or_false, tAug, rSetO, rJoin, rNewStrs_k, tMakeL, rStrO, ClX.tCMeth]
    have hw0 := (g.at_ hr0).1
    have q1 := g.w1
    refine ⟨by rw [SX.S_len, hw]; exact size200 q1, ?_⟩
    first
      | refine .inl ⟨_, Same.seq s2 hs, _, ha0, _, rfl, by rw [SX.S_len, hw0]; exact size200 q1, rfl, ?_⟩
      | refine .inr (.inl ⟨_, Same.tup s2 hs, _, ha0, _, rfl, by rw [SX.S_len, hw0]; exact size200 q1, rfl, ?_⟩)
    rw [SX.S_len, SX.S_len, hw, hw0, decide_eq_true rfl]
    exact s2
end
def IsRows (H : Hp) (l : Addr) (rs : List (List Nat)) : Prop := H l = some (.lst (rowsV rs)) ∨ H l = some (.tup (rowsV rs))
theorem IsRows.same {H H' : Hp} {l : Addr} {rs : List (List Nat)} (h : IsRows H l rs) (s : Same H H') : IsRows H' l rs := h.elim (fun h => .inl (s _ _ h)) fun h => .inr (s _ _ h)
theorem IsRows.seq {K : PySem.W.Frag} {H : Hp} {l : Addr} {rs : List (List Nat)} (h : IsRows H l rs) : SqL K H l (rowsV rs) ∨ SqT K H l (rowsV rs) := h.elim (fun h => .inl (SqL.of h)) fun h => .inr (.inl (.inl h))
def spPicInit (C : Addr) : Sp := fun vs H Q _ => ∃ (p dx l : Addr) (w : Nat) (rs : List (List Nat)), vs = [.ref p, .ref l] ∧ H p = some (.ins C dx []) ∧ Good w rs ∧ IsRows H l rs ∧
  ∀ (t : Addr) (H1 : Hp), Same H H1 → H1 t = some (.tup (rowsV rs)) → Q .non (upd H1 p (.ins C dx [("_rows", .ref t)]))
section
variable {P : Program} {w : World} {K : PySem.W.Frag} {mg : Str → Option Value} {base : Heap} {a : Adr}
set_option maxHeartbeats 4000000
theorem pic_init_body (T : Txt K mg a) {cdv : Value} {A : Around} {outer : List Env} {s : Shared} {H : Hp} {vs : List V} {Q : VK} {E : XK} (hr : Room 2 (A.deeper (envOfC "Picture.__init__" (defScope s_Picture_init) s.heap.objs.size a.Picture_init cdv))) (h : spPicInit a.Picture vs H Q E) :
    ∃ t, PSs (cxOf CX0 P w K mg base ["self", "rows", "wrong"] "Picture.__init__" (defScope s_Picture_init) a.Picture_init cdv A outer s H E).nox (defBody s_Picture_init) t ∧ t { nx := fun _ H' => Q .non H', rt := Q } (L2.start ["self", "rows", "wrong"] vs) H := by
  have G_wrong_row : FnR P w K mg base CX0 2 a.wrong_row (spWrong K) := ok_wrong_row T
  obtain ⟨uM, cvM⟩ := T.cv_MOST
  obtain ⟨p, dx, l, wd, rs, rfl, hp, g, hl, k⟩ := h
  refine ⟨_, (pss_cons (ps_if (PW.pt (pw_or (pt_not (pt_val (pe_callB call_isiT (by rfl) T.n_isinstance (by decide +kernel) (pa_cons (pv 1) (pa_cons (pe_tup (pa_cons (pe_bltn (v := .ty "list") (by rfl) T.n_list (by decide +kernel) rfl) (pa_cons (pe_bltn (v := .ty "tuple") (by rfl) T.n_tuple (by decide +kernel) rfl) pa_nil))) pa_nil))))) (pw_or1 (pt_not (pt_chain op_le op_le pe_int (pe_callB call_len_seq (by rfl) T.n_len (by decide +kernel) (pa_cons (pv 1) pa_nil)) (ClX.pe_cval (pe_glob (v := .ref a.Picture) rfl T.m_Picture rfl)))))))
          (pss_one ps_never)
          pss_nil)
      (pss_cons (ps_set (i := 2) sc_Picture_init.nd rfl (Or.inl rfl) (pe_callR G_wrong_row (hr.mono (by decide)) T.m_wrong_row T.k_wrong_row pass0 (pa_cons (pv 1) (pa_cons (ClX.pe_cval (pe_glob (v := .ref a.Picture) rfl T.m_Picture rfl)) pa_nil))))
      (pss_cons (ps_if (pt_cmpR op_notN (pv 2) pe_non (nomark _))
          (pss_one ps_never)
          pss_nil)
      (pss_one (ps_fld (pv 0) (pe_callTy call_tupleK (by rfl) T.n_tuple (by decide +kernel) (pa_cons (pv 1) pa_nil)) rfl))))), ?_⟩
  simp only [tSeq, tIfS, tTest, tB, tAnd, tOr, tNot, tAndV, tOrV, tNotV, tIf, tOp, tUn, tChain, rEq, rNe, rI0, rI, rU, tCallR, tCons, tNil, tC, tVar, tRet, tRetN, tTup_k, tLst_k, tCB, tNext, tAsg, gName, gTup, gCons, gNil, tDrop, tPar, tFld, ClX.tCVal, tPropR, rBin, rBinT, rNeOwn, rSetL_k, gSub, tMakeK_k, tMethR, rInO, tDNewK_k, tYes, wipe, tMakeR_k, tSMeth, tSMethK, rMulS, decide_true, tNever, sFld, rIsiT, and_false, rListOf, rTupOf, rLenSeq, rIxL, rIxT, rIxS, rCat_k, rRep_k, rSlL_k, rSlS, rNewStrs_k, rAppend_k, tBM, tBM0, tM0, tM1, tSl, tNoPart, tPart, tLc_k, tFor_k, iList, iTup, iEnumT, iRng1, iRng2, iRng2L, iStr, L2.start, List.map, List.length_cons, List.length_nil, List.cons_append, List.nil_append, List.getElem?_cons_succ, List.getElem?_cons_zero, Option.some.injEq, V.int.injEq, V.bl.injEq, V.str.injEq, V.ref.injEq, exists_eq_left', exists_eq_left, and_assoc, exists_and_left, exists_eq, exists_eq', true_and, and_true, List.set_cons_zero, List.set_cons_succ, List.set, decide_eq_true_eq, Bool.not_eq_true', if_true, if_false, rIx, cx_K, nox_K, List.replicate_succ, List.replicate_zero, Nat.reduceSub, Bool.true_eq_false, Bool.false_eq_true, Nat.reduceAdd, List.cons.injEq, reduceCtorEq, false_and, false_or, or_false, tAug, rSetO, rJoin, rNewStrs_k, tMakeL, rStrO, ClX.tCMeth]
  have lt : TyX K H (.ref l) (.type "list") ∨ TyX K H (.ref l) (.type "tuple") := hl.elim (fun h => .inl (.base (.lst h))) fun h => .inr (.base (.tup h))
  refine kNew.mk (by show 2 ≤ sizeLine; decide) fun tp H1 f1 => ?_
  have hl1 := hl.same f1.same
  obtain ⟨tt, hty, hk⟩ : ∃ tt, TyX K H1 (.ref l) tt ∧ PySem.W.kitAny K tt [.type "list", .type "tuple"] = some true := by
    rcases hl1 with h | h
    · exact ⟨_, .base (.lst h), kitAny_cons kit_self (by intro z; cases z) (fun _ => rfl)⟩
    · exact ⟨_, .base (.tup h), kitAny_cons (b := false) (kit_ty (by decide +kernel)) (fun _ => kitAny_cons kit_self (by intro z; cases z) (fun _ => rfl)) (by intro z; cases z)⟩
  simp only [tSeq, tIfS, tTest, tB, tAnd, tOr, tNot, tAndV, tOrV, tNotV, tIf, tOp, tUn, tChain, rEq, rNe, rI0, rI, rU, tCallR, tCons, tNil, tC, tVar, tRet, tRetN, tTup_k, tLst_k, tCB, tNext, tAsg, gName, gTup, gCons, gNil, tDrop, tPar, tFld, ClX.tCVal, tPropR, rBin, rBinT, rNeOwn, rSetL_k, gSub, tMakeK_k, tMethR, rInO, tDNewK_k, tYes, wipe, tMakeR_k, tSMeth, tSMethK, rMulS, decide_true, tNever, sFld, rIsiT, and_false, rListOf, rTupOf, rLenSeq, rIxL, rIxT, rIxS, rCat_k, rRep_k, rSlL_k, rSlS, rNewStrs_k, rAppend_k, tBM, tBM0, tM0, tM1, tSl, tNoPart, tPart, tLc_k, tFor_k, iList, iTup, iEnumT, iRng1, iRng2, iRng2L, iStr, L2.start, List.map, List.length_cons, List.length_nil, List.cons_append, List.nil_append, List.getElem?_cons_succ, List.getElem?_cons_zero, Option.some.injEq, V.int.injEq, V.bl.injEq, V.str.injEq, V.ref.injEq, exists_eq_left', exists_eq_left, and_assoc, exists_and_left, exists_eq, exists_eq', true_and, and_true, List.set_cons_zero, List.set_cons_succ, List.set, decide_eq_true_eq, Bool.not_eq_true', if_true, if_false, rIx, cx_K, nox_K, List.replicate_succ, List.replicate_zero, Nat.reduceSub, Bool.true_eq_false, Bool.false_eq_true, Nat.reduceAdd, List.cons.injEq, reduceCtorEq, false_and, false_or, or_false, tAug, rSetO, rJoin, rNewStrs_k, tMakeL, rStrO, ClX.tCMeth]
  refine ⟨_, f1.at_, _, _, .cons (.ty _) (.cons (.ty _) .nil), hty, true, hk, ?_⟩
  simp only [tSeq, tIfS, tTest, tB, tAnd, tOr, tNot, tAndV, tOrV, tNotV, tIf, tOp, tUn, tChain, rEq, rNe, rI0, rI, rU, tCallR, tCons, tNil, tC, tVar, tRet, tRetN, tTup_k, tLst_k, tCB, tNext, tAsg, gName, gTup, gCons, gNil, tDrop, tPar, tFld, ClX.tCVal, tPropR, rBin, rBinT, rNeOwn, rSetL_k, gSub, tMakeK_k, tMethR, rInO, tDNewK_k, tYes, wipe, tMakeR_k, tSMeth, tSMethK, rMulS, decide_true, tNever, sFld, rIsiT, and_false, rListOf, rTupOf, rLenSeq, rIxL, rIxT, rIxS, rCat_k, rRep_k, rSlL_k, rSlS, rNewStrs_k, rAppend_k, tBM, tBM0, tM0, tM1, tSl, tNoPart, tPart, tLc_k, tFor_k, iList, iTup, iEnumT, iRng1, iRng2, iRng2L, iStr, L2.start, List.map, List.length_cons, List.length_nil, List.cons_append, List.nil_append, List.getElem?_cons_succ, List.getElem?_cons_zero, Option.some.injEq, V.int.injEq, V.bl.injEq, V.str.injEq, V.ref.injEq, exists_eq_left', exists_eq_left, and_assoc, exists_and_left, exists_eq, exists_eq', true_and, and_true, List.set_cons_zero, List.set_cons_succ, List.set, decide_eq_true_eq, Bool.not_eq_true', if_true, if_false, rIx, cx_K, nox_K, List.replicate_succ, List.replicate_zero, Nat.reduceSub, Bool.true_eq_false, Bool.false_eq_true, Nat.reduceAdd, List.cons.injEq, reduceCtorEq, false_and, false_or, or_false, tAug, rSetO, rJoin, rNewStrs_k, tMakeL, rStrO, ClX.tCMeth]
  refine ⟨_, hl1.seq, ?_⟩
  have l0 : 1 ≤ ((rowsV rs).length : Int) := by rw [rowsV_len]; have := g.l0; omega
  have l1 : ((rowsV rs).length : Int) ≤ 200 := by rw [rowsV_len]; have := g.l1; omega
  rw [if_pos l0]
  refine ⟨_, T.cr_Picture, _, _, cvM, _, rfl, ?_⟩
  simp only [decide_eq_true l1, tSeq, tIfS, tTest, tB, tAnd, tOr, tNot, tAndV, tOrV, tNotV, tIf, tOp, tUn, tChain, rEq, rNe, rI0, rI, rU, tCallR, tCons, tNil, tC, tVar, tRet, tRetN, tTup_k, tLst_k, tCB, tNext, tAsg, gName, gTup, gCons, gNil, tDrop, tPar, tFld, ClX.tCVal, tPropR, rBin, rBinT, rNeOwn, rSetL_k, gSub, tMakeK_k, tMethR, rInO, tDNewK_k, tYes, wipe, tMakeR_k, tSMeth, tSMethK, rMulS, decide_true, tNever, sFld, rIsiT, and_false, rListOf, rTupOf, rLenSeq, rIxL, rIxT, rIxS, rCat_k, rRep_k, rSlL_k, rSlS, rNewStrs_k, rAppend_k, tBM, tBM0, tM0, tM1, tSl, tNoPart, tPart, tLc_k, tFor_k, iList, iTup, iEnumT, iRng1, iRng2, iRng2L, iStr, L2.start, List.map, List.length_cons, List.length_nil, List.cons_append, List.nil_append, List.getElem?_cons_succ, List.getElem?_cons_zero, Option.some.injEq, V.int.injEq, V.bl.injEq, V.str.injEq, V.ref.injEq, exists_eq_left', exists_eq_left, and_assoc, exists_and_left, exists_eq, exists_eq', true_and, and_true, List.set_cons_zero, List.set_cons_succ, List.set, decide_eq_true_eq, Bool.not_eq_true', if_true, if_false, rIx, cx_K, nox_K, List.replicate_succ, List.replicate_zero, Nat.reduceSub, Bool.true_eq_false, Bool.false_eq_true, Nat.reduceAdd, List.cons.injEq, reduceCtorEq, false_and, false_or, or_false, tAug, rSetO, rJoin, rNewStrs_k, tMakeL, rStrO, ClX.tCMeth]
  refine ⟨_, T.cr_Picture, _, _, cvM, _, _, _, rfl, g, hl1.seq, fun H2 s2 => ?_⟩
  have hl2 := hl1.same s2
  have hp2 := s2 _ _ (f1.same _ _ hp)
  simp only [tSeq, tIfS, tTest, tB, tAnd, tOr, tNot, tAndV, tOrV, tNotV, tIf, tOp, tUn, tChain, rEq, rNe, rI0, rI, rU, tCallR, tCons, tNil, tC, tVar, tRet, tRetN, tTup_k, tLst_k, tCB, tNext, tAsg, gName, gTup, gCons, gNil, tDrop, tPar, tFld, ClX.tCVal, tPropR, rBin, rBinT, rNeOwn, rSetL_k, gSub, tMakeK_k, tMethR, rInO, tDNewK_k, tYes, wipe, tMakeR_k, tSMeth, tSMethK, rMulS, decide_true, tNever, sFld, rIsiT, and_false, rListOf, rTupOf, rLenSeq, rIxL, rIxT, rIxS, rCat_k, rRep_k, rSlL_k, rSlS, rNewStrs_k, rAppend_k, tBM, tBM0, tM0, tM1, tSl, tNoPart, tPart, tLc_k, tFor_k, iList, iTup, iEnumT, iRng1, iRng2, iRng2L, iStr, L2.start, List.map, List.length_cons, List.length_nil, List.cons_append, List.nil_append, List.getElem?_cons_succ, List.getElem?_cons_zero, Option.some.injEq, V.int.injEq, V.bl.injEq, V.str.injEq, V.ref.injEq, exists_eq_left', exists_eq_left, and_assoc, exists_and_left, exists_eq, exists_eq', true_and, and_true, List.set_cons_zero, List.set_cons_succ, List.set, decide_eq_true_eq, Bool.not_eq_true', if_true, if_false, rIx, cx_K, nox_K, List.replicate_succ, List.replicate_zero, Nat.reduceSub, Bool.true_eq_false, Bool.false_eq_true, Nat.reduceAdd, List.cons.injEq, reduceCtorEq, false_and, false_or, or_false, tAug, rSetO, rJoin, rNewStrs_k, tMakeL, rStrO, ClX.tCMeth]
  rcases hl2 with h | h
  · exact ⟨_, .inl ⟨SqL.of h, kN.mk fun t H3 f3 => ⟨_, dx, [], f3.get hp2, T.c_Picture.cl, T.a_Picture__rows, by decide, k t H3 ((f1.same.trans s2).trans f3.same) f3.at_⟩⟩⟩
  · exact ⟨_, .inr ⟨.inl (.inl h), _, dx, [], hp2, T.c_Picture.cl, T.a_Picture__rows, by decide, k l H2 (f1.same.trans s2) h⟩⟩
theorem ok_pic_init (T : Txt K mg a) : FnR P w K mg base CX0 3 a.Picture_init (spPicInit a.Picture) :=
  T.d_Picture_init.ok sc_Picture_init (fun _ _ _ _ _ _ us hl => match us, hl with | [_, _], _ => rfl) (fun vs H Q E h => by obtain ⟨p, dx, l, w, rs, rfl, _⟩ := h; rfl) (fun cdv A outer s H vs Q E hr h => pic_init_body T hr h)
theorem newPic {C l : Addr} {w : Nat} {rs : List (List Nat)} {H : Hp} {Q : VK} {E : XK} (g : Good w rs) (hl : IsRows H l rs) (k : ∀ x H', Same H H' → H x = none → Pic H' C x rs → Q (.ref x) H') : kMake C (spPicInit C) E Q [.ref l] H :=
  kMake.mk fun x dx H1 s1 nx hx so => ⟨x, dx, l, w, rs, rfl, hx, g, hl.same s1, fun t H2 s2 ht => by
    refine ⟨rfl, k x _ ?_ nx ⟨dx, t, upd_same, ?_⟩⟩
    · intro b u e
      rw [upd_ne (ne_of_none e nx)]
      exact s2 _ _ (s1 _ _ e)
    · rw [upd_ne (ne_of ht (s2 _ _ hx) (fun z => by cases z))]
      exact ht⟩
end
theorem dig_S {c : Int} (h0 : 0 ≤ c) (h1 : c < 10) : Str.ofString (toString c) = S [48 + c.toNat] ∧ c.natAbs.log2 < 1920 := by
  rcases (by omega : c = 0 ∨ c = 1 ∨ c = 2 ∨ c = 3 ∨ c = 4 ∨ c = 5 ∨ c = 6 ∨ c = 7 ∨ c = 8 ∨ c = 9) with rfl | rfl | rfl | rfl | rfl | rfl | rfl | rfl | rfl | rfl <;> exact ⟨by decide +kernel, by decide +kernel⟩
theorem flat_one {α : Type} (x : α) : ∀ n : Nat, (List.replicate n [x]).flatten = List.replicate n x
  | 0 => rfl
  | n + 1 => by rw [List.replicate_succ, List.flatten_cons, flat_one x n, List.replicate_succ]; rfl
def spPRows (C : Addr) : Sp := fun vs H Q _ => ∃ (x dx t : Addr), vs = [.ref x] ∧ H x = some (.ins C dx [("_rows", .ref t)]) ∧ Q (.ref t) H
section
variable {P : Program} {w : World} {K : PySem.W.Frag} {mg : Str → Option Value} {base : Heap} {a : Adr}
set_option maxHeartbeats 4000000
theorem ok_prows (T : Txt K mg a) : FnR P w K mg base CX0 1 a.Picture_rows (spPRows a.Picture) := by
  refine T.d_Picture_rows.ok sc_Picture_rows (fun _ _ _ _ _ _ us hl => match us, hl with | [_], _ => rfl) (fun vs H Q E h => by obtain ⟨x, dx, t, rfl, _⟩ := h; rfl) (fun cdv A outer s H vs Q E hr h => ?_)
  obtain ⟨x, dx, t, rfl, hx, k⟩ := h
  refine ⟨_, (pss_one (ps_ret (pe_fld (pv 0) rfl))), ?_⟩
  simp only [tSeq, tIfS, tTest, tB, tAnd, tOr, tNot, tAndV, tOrV, tNotV, tIf, tOp, tUn, tChain, rEq, rNe, rI0, rI, rU, tCallR, tCons, tNil, tC, tVar, tRet, tRetN, tTup_k, tLst_k, tCB, tNext, tAsg, gName, gTup, gCons, gNil, tDrop, tPar, tFld, ClX.tCVal, tPropR, rBin, rBinT, rNeOwn, rSetL_k, gSub, tMakeK_k, tMethR, rInO, tDNewK_k, tYes, wipe, tMakeR_k, tSMeth, tSMethK, rMulS, decide_true, tNever, sFld, rIsiT, and_false, rListOf, rTupOf, rLenSeq, rIxL, rIxT, rIxS, rCat_k, rRep_k, rSlL_k, rSlS, rNewStrs_k, rAppend_k, tBM, tBM0, tM0, tM1, tSl, tNoPart, tPart, tLc_k, tFor_k, iList, iTup, iEnumT, iRng1, iRng2, iRng2L, iStr, L2.start, List.map, List.length_cons, List.length_nil, List.cons_append, List.nil_append, List.getElem?_cons_succ, List.getElem?_cons_zero, Option.some.injEq, V.int.injEq, V.bl.injEq, V.str.injEq, V.ref.injEq, exists_eq_left', exists_eq_left, and_assoc, exists_and_left, exists_eq, exists_eq', true_and, and_true, List.set_cons_zero, List.set_cons_succ, List.set, decide_eq_true_eq, Bool.not_eq_true', if_true, if_false, rIx, cx_K, nox_K, List.replicate_succ, List.replicate_zero, Nat.reduceSub, Bool.true_eq_false, Bool.false_eq_true, Nat.reduceAdd, List.cons.injEq, reduceCtorEq, false_and, false_or, or_false, tAug, rSetO, rJoin, rNewStrs_k, tMakeL, rStrO, ClX.tCMeth]
  exact ⟨_, dx, _, hx, T.c_Picture.cl, T.a_Picture__rows, _, rfl, k⟩
end
theorem kit_ty_own {K : PySem.W.Frag} {C : Addr} {T : String} {b : Bool} (c : ClsF K C) (h : PySem.W.subIn K (.type T) (.ref C) = some b) : PySem.W.kitOne K (.type T) (.ref C) = some b :=
  kit_own c h (Bool.eq_false_iff.mpr fun q => by cases beq_iff_eq.mp q)
abbrev rowsD (rs : List (List Nat)) : List PyData := rs.map fun r => .str (S r)
theorem dp_rows {K : PySem.W.Frag} {H : Hp} : ∀ rs : List (List Nat), DpAll K H (rowsV rs) (rowsD rs)
  | [] => .nil
  | r :: t => .cons (.str _) (dp_rows t)
theorem digL_ok {r : List Nat} (h : DigL r) : PyData.strOk (S r) = true := by
  show (r.toArray.all fun c => decide (c < 0x110000)) = true
  rw [← Array.all_toList]
  exact List.all_eq_true.mpr fun c hc => decide_eq_true (by have := h c hc; omega)
theorem rows_lay : ∀ rs : List (List Nat), (∀ r ∈ rs, DigL r) → PyData.canLayAll0 (rowsD rs) = true ∧ PyData.depthAll (rowsD rs) = 0
  | [], _ => ⟨rfl, by simp [PyData.depthAll]⟩
  | r :: t, h => by
    obtain ⟨h1, h2⟩ := rows_lay t fun s q => h s (List.mem_cons_of_mem _ q)
    refine ⟨?_, ?_⟩
    · simp only [List.map_cons, PyData.canLayAll0, PyData.canLay0, h1, digL_ok (h r List.mem_cons_self)]
      rfl
    · simp only [List.map_cons, PyData.depthAll, PyData.depth, h2]
      rfl
theorem rows_shaped {w : Nat} {rs : List (List Nat)} (g : Good w rs) : SeqAt.shaped (.tuple (rowsD rs)) = true := by
  obtain ⟨h1, h2⟩ := rows_lay rs fun r hr => (g.row r hr).2
  refine Bool.and_eq_true_iff.mpr ⟨h1, decide_eq_true ?_⟩
  simp only [PyData.depth, h2]
  decide
theorem eqv_rows : ∀ rs rs' : List (List Nat), PyData.eqv (.tuple (rowsD rs)) (.tuple (rowsD rs')) = decide (rs = rs') := by
  have key : ∀ rs rs' : List (List Nat), PyData.eqvAll (rowsD rs) (rowsD rs') = decide (rs = rs') := by
    intro rs
    induction rs with
    | nil => intro rs'; cases rs' <;> simp [PyData.eqvAll]
    | cons r t ih =>
      intro rs'
      cases rs' with
      | nil => simp [PyData.eqvAll]
      | cons r' t' =>
        simp only [List.map_cons, PyData.eqvAll, PyData.eqv, ih t', SX.S_beq_eq]
        by_cases h1 : r = r' <;> by_cases h2 : t = t' <;> simp [h1, h2]
  intro rs rs'
  simp only [PyData.eqv, key]
def spPEq (K : PySem.W.Frag) (C : Addr) : Sp := fun vs H Q _ => ∃ (p : Addr) (rs : List (List Nat)) (w : Nat) (v : V), vs = [.ref p, v] ∧ Pic H C p rs ∧ Good w rs ∧
  ((∃ (q : Addr) (rs' : List (List Nat)) (w' : Nat), v = .ref q ∧ Pic H C q rs' ∧ Good w' rs' ∧ Q (.bl (decide (rs = rs'))) H) ∨ (∃ t : String, TyX K H v (.type t) ∧ PySem.W.subIn K (.type t) (.ref C) = some false ∧ Q (.bl false) H))
section
variable {P : Program} {w : World} {K : PySem.W.Frag} {mg : Str → Option Value} {base : Heap} {a : Adr}
set_option maxHeartbeats 4000000
theorem ok_peq (T : Txt K mg a) : FnR P w K mg base CX0 3 a.Picture_eq (spPEq K a.Picture) := by
  have G_Picture_rows : FnR P w K mg base CX0 1 a.Picture_rows (spPRows a.Picture) := ok_prows T
  refine T.d_Picture_eq.ok sc_Picture_eq (fun _ _ _ _ _ _ us hl => match us, hl with | [_, _], _ => rfl) (fun vs H Q E h => by obtain ⟨p, rs, w, v, rfl, _⟩ := h; rfl) (fun cdv A outer s H vs Q E hr h => ?_)
  obtain ⟨p, rs, wd, v, rfl, ⟨dx, tr, hp, htr⟩, g, h⟩ := h
  refine ⟨_, (pss_one (ps_ret (pe_and (pe_callB call_isi (by rfl) T.n_isinstance (by decide +kernel) (pa_cons (pv 1) (pa_cons (pe_glob (v := .ref a.Picture) rfl T.m_Picture rfl) pa_nil))) (pe_one (pe_cmpR (op_eqD hr.units) (pe_fld (pv 0) rfl) (pe_propR (pv 1) T.c_Picture.cl T.p_Picture_rows G_Picture_rows (hr.mono (by decide))  pass0) (nomark _)))))), ?_⟩
  simp only [tSeq, tIfS, tTest, tB, tAnd, tOr, tNot, tAndV, tOrV, tNotV, tIf, tOp, tUn, tChain, rEq, rNe, rI0, rI, rU, tCallR, tCons, tNil, tC, tVar, tRet, tRetN, tTup_k, tLst_k, tCB, tNext, tAsg, gName, gTup, gCons, gNil, tDrop, tPar, tFld, ClX.tCVal, tPropR, rBin, rBinT, rNeOwn, rSetL_k, gSub, tMakeK_k, tMethR, rInO, tDNewK_k, tYes, wipe, tMakeR_k, tSMeth, tSMethK, rMulS, decide_true, tNever, sFld, rIsiT, and_false, rListOf, rTupOf, rLenSeq, rIxL, rIxT, rIxS, rCat_k, rRep_k, rSlL_k, rSlS, rNewStrs_k, rAppend_k, tBM, tBM0, tM0, tM1, tSl, tNoPart, tPart, tLc_k, tFor_k, iList, iTup, iEnumT, iRng1, iRng2, iRng2L, iStr, L2.start, List.map, List.length_cons, List.length_nil, List.cons_append, List.nil_append, List.getElem?_cons_succ, List.getElem?_cons_zero, Option.some.injEq, V.int.injEq, V.bl.injEq, V.str.injEq, V.ref.injEq, exists_eq_left', exists_eq_left, and_assoc, exists_and_left, exists_eq, exists_eq', true_and, and_true, List.set_cons_zero, List.set_cons_succ, List.set, decide_eq_true_eq, Bool.not_eq_true', if_true, if_false, rIx, cx_K, nox_K, List.replicate_succ, List.replicate_zero, Nat.reduceSub, Bool.true_eq_false, Bool.false_eq_true, Nat.reduceAdd, List.cons.injEq, reduceCtorEq, false_and, false_or, or_false, tAug, rSetO, rJoin, rNewStrs_k, tMakeL, rStrO, ClX.tCMeth]
  rcases h with ⟨q, rs', w', rfl, ⟨dy, tq, hq, htq⟩, g', k⟩ | ⟨t, ht, hs, k⟩
  · refine ⟨_, _, _, _, _, rfl, .own _, T.c_Picture.tyOf hq, kit_self, true, rfl, ?_⟩
    simp only [tSeq, tIfS, tTest, tB, tAnd, tOr, tNot, tAndV, tOrV, tNotV, tIf, tOp, tUn, tChain, rEq, rNe, rI0, rI, rU, tCallR, tCons, tNil, tC, tVar, tRet, tRetN, tTup_k, tLst_k, tCB, tNext, tAsg, gName, gTup, gCons, gNil, tDrop, tPar, tFld, ClX.tCVal, tPropR, rBin, rBinT, rNeOwn, rSetL_k, gSub, tMakeK_k, tMethR, rInO, tDNewK_k, tYes, wipe, tMakeR_k, tSMeth, tSMethK, rMulS, decide_true, tNever, sFld, rIsiT, and_false, rListOf, rTupOf, rLenSeq, rIxL, rIxT, rIxS, rCat_k, rRep_k, rSlL_k, rSlS, rNewStrs_k, rAppend_k, tBM, tBM0, tM0, tM1, tSl, tNoPart, tPart, tLc_k, tFor_k, iList, iTup, iEnumT, iRng1, iRng2, iRng2L, iStr, L2.start, List.map, List.length_cons, List.length_nil, List.cons_append, List.nil_append, List.getElem?_cons_succ, List.getElem?_cons_zero, Option.some.injEq, V.int.injEq, V.bl.injEq, V.str.injEq, V.ref.injEq, exists_eq_left', exists_eq_left, and_assoc, exists_and_left, exists_eq, exists_eq', true_and, and_true, List.set_cons_zero, List.set_cons_succ, List.set, decide_eq_true_eq, Bool.not_eq_true', if_true, if_false, rIx, cx_K, nox_K, List.replicate_succ, List.replicate_zero, Nat.reduceSub, Bool.true_eq_false, Bool.false_eq_true, Nat.reduceAdd, List.cons.injEq, reduceCtorEq, false_and, false_or, or_false, tAug, rSetO, rJoin, rNewStrs_k, tMakeL, rStrO, ClX.tCMeth]
    refine ⟨_, dx, _, hp, T.c_Picture.cl, T.a_Picture__rows, _, rfl, dy, _, hq, q, dy, tq, rfl, hq, ?_⟩
    refine ⟨.tuple (rowsD rs), .tuple (rowsD rs'), .tup (.inl (.inl htr)) (dp_rows rs), .tup (.inl (.inl htq)) (dp_rows rs'), rows_shaped g, rows_shaped g', ?_⟩
    rw [eqv_rows]
    exact k
  · exact ⟨_, _, _, _, _, rfl, .own _, ht, kit_ty_own T.c_Picture hs, false, rfl, k⟩
end
theorem cut_to {a : List Nat} {i : Nat} (h : i ≤ a.length) : cutS (S a) none (some (i : Int)) = S (a.take i) := by
  unfold cutS
  rw [HT.sIx_nat, HT.sIx_none, SX.S_len, Nat.min_eq_left h, List.drop_zero, Nat.sub_zero]
theorem cut_from {a : List Nat} {i : Nat} (h : i ≤ a.length) : cutS (S a) (some (i : Int)) none = S (a.drop i) := by
  unfold cutS
  rw [HT.sIx_nat, HT.sIx_none, SX.S_len, Nat.min_eq_left h]
  exact congrArg S (List.take_of_length_le (by rw [List.length_drop]; exact Nat.le_refl _))
theorem eqv_rowsL (rs rs' : List (List Nat)) : PyData.eqv (.list (rowsD rs)) (.list (rowsD rs')) = decide (rs = rs') := by
  have h := eqv_rows rs rs'
  simp only [PyData.eqv] at h ⊢
  exact h
theorem rows_shapedL {w : Nat} {rs : List (List Nat)} (g : Good w rs) : SeqAt.shaped (.list (rowsD rs)) = true := by
  obtain ⟨h1, h2⟩ := rows_lay rs fun r hr => (g.row r hr).2
  refine Bool.and_eq_true_iff.mpr ⟨h1, decide_eq_true ?_⟩
  simp only [PyData.depth, h2]
  decide
end Pf
end
section
namespace Pf
open PySem PySem.Spec PyProof.Rows L2 Ow StX
open SX (S)
/-! ### what is handed as rows -/
def NoStr (K : PySem.W.Frag) (H : Hp) (v : V) : Prop := ∃ T : String, TyX K H v (.type T) ∧ PySem.W.kitOne K (.type T) (.type "str") = some false
theorem NoStr.same {K : PySem.W.Frag} {H H' : Hp} {v : V} (h : NoStr K H v) (s : Same H H') : NoStr K H' v := h.imp fun _ q => ⟨TyX.same q.1 s, q.2⟩
/-- a row of digits -/
def goodS (s : Str) : Bool := Txt.isascii s && Txt.isdigit s && decide ((s.length : Int) ≤ 200)
def okV (v0 v : V) : Bool := match v0, v with
  | .str s0, .str s => goodS s && decide (s.length = s0.length)
  | _, _ => false
theorem NoStr.ne {K : PySem.W.Frag} {H : Hp} {z : Str} (h : NoStr K H (.str z)) : False := by
  obtain ⟨T, ht, hk⟩ := h
  cases ht with
  | base h =>
    cases h
    rw [kit_self] at hk
    cases hk
theorem NoStr.ok {K : PySem.W.Frag} {H : Hp} {v0 v : V} (h : NoStr K H v) : okV v0 v = false := by
  cases v <;> first
    | exact h.ne.elim
    | (cases v0 <;> rfl)
def ItemK (K : PySem.W.Frag) (H : Hp) (v : V) : Prop := (∃ s : Str, v = .str s ∧ s.length ≤ 20000) ∨ NoStr K H v
theorem ItemK.same {K : PySem.W.Frag} {H H' : Hp} {v : V} (h : ItemK K H v) (s : Same H H') : ItemK K H' v := h.imp id fun h => h.same s
theorem find_at {p : V → Bool} : ∀ (xs : List V) (i : Nat) (v : V), (∀ j u, j < i → xs[j]? = some u → p u = false) → xs[i]? = some v → p v = true → xs.findIdx? p = some i
  | [], i, v, _, h, _ => by simp at h
  | x :: xs, 0, v, _, h, q => by
    simp only [List.getElem?_cons_zero, Option.some.injEq] at h
    subst h
    rw [List.findIdx?_cons, q]
    rfl
  | x :: xs, i + 1, v, hb, h, q => by
    rw [List.findIdx?_cons, hb 0 x (by omega) rfl]
    rw [if_neg (by decide), find_at xs i v (fun j u hj hu => hb (j + 1) u (by omega) (by simpa using hu)) (by simpa using h) q]
    rfl
theorem find_no {p : V → Bool} {xs : List V} (h : ∀ (j : Nat) (u : V), xs[j]? = some u → p u = false) : xs.findIdx? p = none := by
  rw [List.findIdx?_eq_none_iff]
  intro x hx
  obtain ⟨j, hj⟩ := List.getElem?_of_mem hx
  exact h j x hj
def spIsRowX (K : PySem.W.Frag) : Sp := fun vs H Q _ => ∃ v, vs = [v, .int 200] ∧ ((∃ s : Str, v = .str s ∧ s.length ≤ 20000 ∧ Q (.bl (goodS s)) H) ∨ (NoStr K H v ∧ Q (.bl false) H))
/-- the first wrong row -/
def wrongV (xs : List V) : Option Nat := match xs with
  | [] => none
  | v0 :: _ => xs.findIdx? fun v => !okV v0 v
def spWrongX (K : PySem.W.Frag) : Sp := fun vs H Q _ => ∃ (l : Addr) (xs : List V), vs = [.ref l, .int 200] ∧ (H l = some (.lst xs) ∨ H l = some (.tup xs)) ∧ xs.length ≤ 20000 ∧ (∀ x ∈ xs, ItemK K H x) ∧
  ∀ H', Same H H' → Q (match wrongV xs with | none => .non | some k => .int (k : Nat)) H'
section
variable {P : Program} {w : World} {K : PySem.W.Frag} {mg : Str → Option Value} {base : Heap} {a : Adr}
set_option maxHeartbeats 4000000
theorem ok_is_rowX (T : Txt K mg a) : FnR P w K mg base CX0 1 a.is_row (spIsRowX K) := by
  refine T.d_is_row.ok sc_is_row (fun _ _ _ _ _ _ us hl => match us, hl with | [_, _], _ => rfl) (fun vs H Q E h => by obtain ⟨v, rfl, _⟩ := h; rfl) (fun cdv A outer s H vs Q E hr h => ?_)
  obtain ⟨v, rfl, h⟩ := h
  refine ⟨_, (pss_one (ps_ret (pe_and (pe_callB call_isi (by rfl) T.n_isinstance (by decide +kernel) (pa_cons (pv 0) (pa_cons (pe_bltn (v := .ty "str") (by rfl) T.n_str (by decide +kernel) rfl) pa_nil))) (pe_and (pe_m0 PySem.F.slot_str_isascii PySem.F.type_str_isascii mt_isascii (pv 0)) (pe_and (pe_m0 PySem.F.slot_str_isdigit PySem.F.type_str_isdigit mt_isdigit (pv 0)) (pe_one (pe_cmpR op_le (pe_callB call_len_str (by rfl) T.n_len (by decide +kernel) (pa_cons (pv 0) pa_nil)) (pv 1) (nomark _)))))))), ?_⟩
  simp only [tSeq, tIfS, tTest, tB, tAnd, tOr, tNot, tAndV, tOrV, tNotV, tIf, tOp, tUn, tChain, rEq, rNe, rI0, rI, rU, tCallR, tCons, tNil, tC, tVar, tRet, tRetN, tTup_k, tLst_k, tCB, tNext, tAsg, gName, gTup, gCons, gNil, tDrop, tPar, tFld, ClX.tCVal, tPropR, rBin, rBinT, rNeOwn, rSetL_k, gSub, tMakeK_k, tMethR, rInO, tDNewK_k, tYes, wipe, tMakeR_k, tSMeth, tSMethK, rMulS, decide_true, tNever, sFld, rIsiT, and_false, rListOf, rTupOf, rLenSeq, rIxL, rIxT, rIxS, rCat_k, rRep_k, rSlL_k, rSlS, rNewStrs_k, rAppend_k, tBM, tBM0, tM0, tM1, tSl, tNoPart, tPart, tLc_k, tFor_k, iList, iTup, iEnumT, iRng1, iRng2, iRng2L, iStr, L2.start, List.map, List.length_cons, List.length_nil, List.cons_append, List.nil_append, List.getElem?_cons_succ, List.getElem?_cons_zero, Option.some.injEq, V.int.injEq, V.bl.injEq, V.str.injEq, V.ref.injEq, exists_eq_left', exists_eq_left, and_assoc, exists_and_left, exists_eq, exists_eq', true_and, and_true, List.set_cons_zero, List.set_cons_succ, List.set, decide_eq_true_eq, Bool.not_eq_true', if_true, if_false, rIx, cx_K, nox_K, List.replicate_succ, List.replicate_zero, Nat.reduceSub, Bool.true_eq_false, Bool.false_eq_true, Nat.reduceAdd, List.cons.injEq, reduceCtorEq, false_and, false_or, or_false, tAug, rSetO, rJoin, rNewStrs_k, tMakeL, rStrO, ClX.tCMeth]
  rcases h with ⟨s, rfl, hs, k⟩ | ⟨⟨t, ht, hk⟩, k⟩
  · refine ⟨_, _, _, _, true, rfl, .ty _, .base (.str _), kit_self, _, rfl, ?_⟩
    unfold goodS at k
    rw [if_pos rfl]
    refine ⟨⟨_, rfl⟩, _, rfl, ?_⟩
    cases h1 : Txt.isascii s with
    | false =>
      rw [if_neg (by decide)]
      simpa [h1] using k
    | true =>
      rw [if_pos rfl]
      refine ⟨⟨_, rfl⟩, _, rfl, ?_⟩
      cases h2 : Txt.isdigit s with
      | false =>
        rw [if_neg (by decide)]
        simpa [h1, h2] using k
      | true =>
        rw [if_pos rfl]
        exact ⟨s, rfl, Nat.le_trans hs (by decide), by simpa [h1, h2] using k⟩
  · exact ⟨_, _, _, _, false, rfl, .ty _, ht, hk, _, rfl, k⟩
theorem ok_wrong_rowX (T : Txt K mg a) : FnR P w K mg base CX0 2 a.wrong_row (spWrongX K) := by
  have G_is_row : FnR P w K mg base CX0 1 a.is_row (spIsRowX K) := ok_is_rowX T
  refine T.d_wrong_row.ok sc_wrong_row (fun _ _ _ _ _ _ us hl => match us, hl with | [_, _], _ => rfl) (fun vs H Q E h => by obtain ⟨l, xs, rfl, _⟩ := h; rfl) (fun cdv A outer s H vs Q E hr h => ?_)
  obtain ⟨l, xs, rfl, hl, hn, hx, k⟩ := h
  refine ⟨_, (pss_cons (ps_for PassesOwn.never rfl (pi_enumT (by rfl) T.n_enumerate (pa_cons (pv 0) pa_nil)) (pg_tup rfl (pgs_cons (pg_name (i := 2) sc_wrong_row.nd rfl (Or.inl rfl)) (pgs_cons (pg_name (i := 3) sc_wrong_row.nd rfl (Or.inl rfl)) pgs_nil)))
          (pss_one (ps_if (PW.pt (pw_or (pt_not (pt_val (pe_callR G_is_row (hr.mono (by decide)) T.m_is_row T.k_is_row pass0 (pa_cons (pv 3) (pa_cons (pv 1) pa_nil))))) (pw_or1 (pt_cmpR op_ne (pe_callB call_len_str (by rfl) T.n_len (by decide +kernel) (pa_cons (pv 3) pa_nil)) (pe_callB call_len_str (by rfl) T.n_len (by decide +kernel) (pa_cons (pe_ix ix_seq (pv 0) pe_int (fun _ _ => rfl)) pa_nil)) (nomark _)))))
              (pss_one (ps_ret (pv 2)))
              pss_nil)))
      (pss_one (ps_ret pe_non))), ?_⟩
  simp only [tSeq, tIfS, tTest, tB, tAnd, tOr, tNot, tAndV, tOrV, tNotV, tIf, tOp, tUn, tChain, rEq, rNe, rI0, rI, rU, tCallR, tCons, tNil, tC, tVar, tRet, tRetN, tTup_k, tLst_k, tCB, tNext, tAsg, gName, gTup, gCons, gNil, tDrop, tPar, tFld, ClX.tCVal, tPropR, rBin, rBinT, rNeOwn, rSetL_k, gSub, tMakeK_k, tMethR, rInO, tDNewK_k, tYes, wipe, tMakeR_k, tSMeth, tSMethK, rMulS, decide_true, tNever, sFld, rIsiT, and_false, rListOf, rTupOf, rLenSeq, rIxL, rIxT, rIxS, rCat_k, rRep_k, rSlL_k, rSlS, rNewStrs_k, rAppend_k, tBM, tBM0, tM0, tM1, tSl, tNoPart, tPart, tLc_k, tFor_k, iList, iTup, iEnumT, iRng1, iRng2, iRng2L, iStr, L2.start, List.map, List.length_cons, List.length_nil, List.cons_append, List.nil_append, List.getElem?_cons_succ, List.getElem?_cons_zero, Option.some.injEq, V.int.injEq, V.bl.injEq, V.str.injEq, V.ref.injEq, exists_eq_left', exists_eq_left, and_assoc, exists_and_left, exists_eq, exists_eq', true_and, and_true, List.set_cons_zero, List.set_cons_succ, List.set, decide_eq_true_eq, Bool.not_eq_true', if_true, if_false, rIx, cx_K, nox_K, List.replicate_succ, List.replicate_zero, Nat.reduceSub, Bool.true_eq_false, Bool.false_eq_true, Nat.reduceAdd, List.cons.injEq, reduceCtorEq, false_and, false_or, or_false, tAug, rSetO, rJoin, rNewStrs_k, tMakeL, rStrO, ClX.tCMeth]
  have h0 : ∃ (x2 x3 : Option V), Same H H ∧ (∀ j u, j < 0 → xs[j]? = some u → okV (xs.headD .non) u = true) ∧ ([some (V.ref l), some (.int 200), none, none] : List (Option V)) = [some (.ref l), some (.int 200), x2, x3] := ⟨_, _, Same.refl H, fun j u h => absurd h (Nat.not_lt_zero _), rfl⟩
  have fin : ∀ H', Same H H' → (∀ j u, j < xs.length → xs[j]? = some u → okV (xs.headD .non) u = true) → Q .non H' := fun H' s1 ok => by
    have z := k H' s1
    have e : wrongV xs = none := by
      cases xs with
      | nil => rfl
      | cons v0 r =>
        refine find_no fun j u hu => ?_
        have := ok j u (List.getElem?_eq_some_iff.mp hu).1 hu
        show (!okV v0 u) = false
        rw [show okV v0 u = true from this]
        rfl
    rw [e] at z
    exact z
  rcases hl with hl | hl
  · refine ⟨_, .inl ⟨SqL.of hl, kFor.it walk_enum (fun i σ H' => ∃ (x2 x3 : Option V), Same H H' ∧ (∀ j u, j < i → xs[j]? = some u → okV (xs.headD .non) u = true) ∧ σ = [some (.ref l), some (.int 200), x2, x3]) h0 (fun _ _ H' _ q => by obtain ⟨_, _, s1, _⟩ := q; exact s1.seq (SqL.of hl)) (fun i x σ H1 H2 hi hP hY => ?_) fun σ H' q => by obtain ⟨_, _, s1, ok, _⟩ := q; exact fin _ s1 ok⟩⟩
    obtain ⟨at_, rw_, s1, ok, rfl⟩ := hP
    obtain ⟨t1, y1, y2, rfl, ht1, rfl, e1, e2⟩ := hY
    cases e1
    have e2 : xs[i]? = some y2 := e2
    have f1 := fresh_upd (o := .tup [.int (i : Nat), y2]) ht1
    have s2 := s1.trans f1.same
    have hit := (hx y2 (List.mem_of_getElem? e2)).same s2
    obtain ⟨v0, r0, exs⟩ : ∃ v0 r0, xs = v0 :: r0 := by
      cases xs with
      | nil => simp at e2
      | cons a b => exact ⟨_, _, rfl⟩
    have wr : okV v0 y2 = false → wrongV xs = some i := fun h => by
      subst exs
      exact find_at (v0 :: r0) i y2 (fun j u hj hu => by
        show (!okV v0 u) = false
        rw [show okV v0 u = true from ok j u hj hu]
        rfl) e2 (by show (!okV v0 y2) = true; rw [h]; rfl)
    have back : ∀ H', Same H H' → okV v0 y2 = false → Q (.int (i : Nat)) H' := fun H' s h => by
      have z := k H' s
      rw [wr h] at z
      exact z
    refine ⟨t1, _, rfl, .inl (.inl f1.at_), rfl, ?_⟩
    simp only [tSeq, tIfS, tTest, tB, tAnd, tOr, tNot, tAndV, tOrV, tNotV, tIf, tOp, tUn, tChain, rEq, rNe, rI0, rI, rU, tCallR, tCons, tNil, tC, tVar, tRet, tRetN, tTup_k, tLst_k, tCB, tNext, tAsg, gName, gTup, gCons, gNil, tDrop, tPar, tFld, ClX.tCVal, tPropR, rBin, rBinT, rNeOwn, rSetL_k, gSub, tMakeK_k, tMethR, rInO, tDNewK_k, tYes, wipe, tMakeR_k, tSMeth, tSMethK, rMulS, decide_true, tNever, sFld, rIsiT, and_false, rListOf, rTupOf, rLenSeq, rIxL, rIxT, rIxS, rCat_k, rRep_k, rSlL_k, rSlS, rNewStrs_k, rAppend_k, tBM, tBM0, tM0, tM1, tSl, tNoPart, tPart, tLc_k, tFor_k, iList, iTup, iEnumT, iRng1, iRng2, iRng2L, iStr, L2.start, List.map, List.length_cons, List.length_nil, List.cons_append, List.nil_append, List.getElem?_cons_succ, List.getElem?_cons_zero, Option.some.injEq, V.int.injEq, V.bl.injEq, V.str.injEq, V.ref.injEq, exists_eq_left', exists_eq_left, and_assoc, exists_and_left, exists_eq, exists_eq', true_and, and_true, List.set_cons_zero, List.set_cons_succ, List.set, decide_eq_true_eq, Bool.not_eq_true', if_true, if_false, rIx, cx_K, nox_K, List.replicate_succ, List.replicate_zero, Nat.reduceSub, Bool.true_eq_false, Bool.false_eq_true, Nat.reduceAdd, List.cons.injEq, reduceCtorEq, false_and, false_or, or_false, tAug, rSetO, rJoin, rNewStrs_k, tMakeL, rStrO, ClX.tCMeth]
    rcases hit with ⟨s, rfl, hs⟩ | hn'
    · refine ⟨_, rfl, .inl ⟨s, rfl, hs, _, rfl, ?_⟩⟩
      cases hg : goodS s with
      | false =>
        rw [if_pos rfl]
        exact back _ s2 (by cases v0 <;> simp [okV, hg])
      | true =>
        rw [if_neg (by decide)]
        obtain ⟨s0, rfl, hs0⟩ : ∃ s0, v0 = .str s0 ∧ s0.length ≤ 20000 := by
          have it0 := hx v0 (by rw [exs]; exact List.mem_cons_self)
          by_cases hi0 : i = 0
          · subst hi0
            rw [exs] at e2
            cases e2
            exact ⟨s, rfl, hs⟩
          · have := ok 0 v0 (by omega) (by rw [exs]; rfl)
            rw [exs] at this
            rcases it0 with ⟨s0, rfl, h⟩ | h
            · exact ⟨s0, rfl, h⟩
            · cases v0 <;> simp [okV] at this
              rename_i z
              exact h.ne.elim
        have a0 : atI xs 0 = some (.str s0) := by rw [exs]; exact atI_nat (j := 0) rfl
        refine ⟨s, rfl, Nat.le_trans hs (by decide), ?_⟩
        first
          | refine .inl ⟨_, Same.seq s2 (SqL.of hl), _, a0, s0, rfl, Nat.le_trans hs0 (by decide), rfl, ?_⟩
          | refine .inr (.inl ⟨_, Same.tup s2 (.inl (.inl hl)), _, a0, s0, rfl, Nat.le_trans hs0 (by decide), rfl, ?_⟩)
        by_cases e : s.length = s0.length
        · rw [if_neg (by simp [e])]
          refine ⟨s2, fun j u hj hu => ?_⟩
          by_cases hji : j = i
          · subst hji
            rw [e2] at hu
            cases hu
            rw [exs]
            show okV (.str s0) (.str s) = true
            simp [okV, hg, e]
          · exact ok j u (by omega) hu
        · rw [if_pos (decide_eq_false fun z => e (by omega))]
          exact back _ s2 (by simp [okV, hg, e])
    · refine ⟨_, rfl, .inr ⟨hn', _, rfl, ?_⟩⟩
      rw [if_pos rfl]
      exact back _ s2 hn'.ok
  · refine ⟨_, .inr ⟨.inl (.inl hl), kFor.it walk_enumT (fun i σ H' => ∃ (x2 x3 : Option V), Same H H' ∧ (∀ j u, j < i → xs[j]? = some u → okV (xs.headD .non) u = true) ∧ σ = [some (.ref l), some (.int 200), x2, x3]) h0 (fun _ _ H' _ q => by obtain ⟨_, _, s1, _⟩ := q; exact Same.tup s1 (.inl (.inl hl))) (fun i x σ H1 H2 hi hP hY => ?_) fun σ H' q => by obtain ⟨_, _, s1, ok, _⟩ := q; exact fin _ s1 ok⟩⟩
    obtain ⟨at_, rw_, s1, ok, rfl⟩ := hP
    obtain ⟨t1, y1, y2, rfl, ht1, rfl, e1, e2⟩ := hY
    cases e1
    have e2 : xs[i]? = some y2 := e2
    have f1 := fresh_upd (o := .tup [.int (i : Nat), y2]) ht1
    have s2 := s1.trans f1.same
    have hit := (hx y2 (List.mem_of_getElem? e2)).same s2
    obtain ⟨v0, r0, exs⟩ : ∃ v0 r0, xs = v0 :: r0 := by
      cases xs with
      | nil => simp at e2
      | cons a b => exact ⟨_, _, rfl⟩
    have wr : okV v0 y2 = false → wrongV xs = some i := fun h => by
      subst exs
      exact find_at (v0 :: r0) i y2 (fun j u hj hu => by
        show (!okV v0 u) = false
        rw [show okV v0 u = true from ok j u hj hu]
        rfl) e2 (by show (!okV v0 y2) = true; rw [h]; rfl)
    have back : ∀ H', Same H H' → okV v0 y2 = false → Q (.int (i : Nat)) H' := fun H' s h => by
      have z := k H' s
      rw [wr h] at z
      exact z
    refine ⟨t1, _, rfl, .inl (.inl f1.at_), rfl, ?_⟩
    simp only [tSeq, tIfS, tTest, tB, tAnd, tOr, tNot, tAndV, tOrV, tNotV, tIf, tOp, tUn, tChain, rEq, rNe, rI0, rI, rU, tCallR, tCons, tNil, tC, tVar, tRet, tRetN, tTup_k, tLst_k, tCB, tNext, tAsg, gName, gTup, gCons, gNil, tDrop, tPar, tFld, ClX.tCVal, tPropR, rBin, rBinT, rNeOwn, rSetL_k, gSub, tMakeK_k, tMethR, rInO, tDNewK_k, tYes, wipe, tMakeR_k, tSMeth, tSMethK, rMulS, decide_true, tNever, sFld, rIsiT, and_false, rListOf, rTupOf, rLenSeq, rIxL, rIxT, rIxS, rCat_k, rRep_k, rSlL_k, rSlS, rNewStrs_k, rAppend_k, tBM, tBM0, tM0, tM1, tSl, tNoPart, tPart, tLc_k, tFor_k, iList, iTup, iEnumT, iRng1, iRng2, iRng2L, iStr, L2.start, List.map, List.length_cons, List.length_nil, List.cons_append, List.nil_append, List.getElem?_cons_succ, List.getElem?_cons_zero, Option.some.injEq, V.int.injEq, V.bl.injEq, V.str.injEq, V.ref.injEq, exists_eq_left', exists_eq_left, and_assoc, exists_and_left, exists_eq, exists_eq', true_and, and_true, List.set_cons_zero, List.set_cons_succ, List.set, decide_eq_true_eq, Bool.not_eq_true', if_true, if_false, rIx, cx_K, nox_K, List.replicate_succ, List.replicate_zero, Nat.reduceSub, Bool.true_eq_false, Bool.false_eq_true, Nat.reduceAdd, List.cons.injEq, reduceCtorEq, false_and, false_or, or_false, tAug, rSetO, rJoin, rNewStrs_k, tMakeL, rStrO, ClX.tCMeth]
    rcases hit with ⟨s, rfl, hs⟩ | hn'
    · refine ⟨_, rfl, .inl ⟨s, rfl, hs, _, rfl, ?_⟩⟩
      cases hg : goodS s with
      | false =>
        rw [if_pos rfl]
        exact back _ s2 (by cases v0 <;> simp [okV, hg])
      | true =>
        rw [if_neg (by decide)]
        obtain ⟨s0, rfl, hs0⟩ : ∃ s0, v0 = .str s0 ∧ s0.length ≤ 20000 := by
          have it0 := hx v0 (by rw [exs]; exact List.mem_cons_self)
          by_cases hi0 : i = 0
          · subst hi0
            rw [exs] at e2
            cases e2
            exact ⟨s, rfl, hs⟩
          · have := ok 0 v0 (by omega) (by rw [exs]; rfl)
            rw [exs] at this
            rcases it0 with ⟨s0, rfl, h⟩ | h
            · exact ⟨s0, rfl, h⟩
            · cases v0 <;> simp [okV] at this
              rename_i z
              exact h.ne.elim
        have a0 : atI xs 0 = some (.str s0) := by rw [exs]; exact atI_nat (j := 0) rfl
        refine ⟨s, rfl, Nat.le_trans hs (by decide), ?_⟩
        first
          | refine .inl ⟨_, Same.seq s2 (SqL.of hl), _, a0, s0, rfl, Nat.le_trans hs0 (by decide), rfl, ?_⟩
          | refine .inr (.inl ⟨_, Same.tup s2 (.inl (.inl hl)), _, a0, s0, rfl, Nat.le_trans hs0 (by decide), rfl, ?_⟩)
        by_cases e : s.length = s0.length
        · rw [if_neg (by simp [e])]
          refine ⟨s2, fun j u hj hu => ?_⟩
          by_cases hji : j = i
          · subst hji
            rw [e2] at hu
            cases hu
            rw [exs]
            show okV (.str s0) (.str s) = true
            simp [okV, hg, e]
          · exact ok j u (by omega) hu
        · rw [if_pos (decide_eq_false fun z => e (by omega))]
          exact back _ s2 (by simp [okV, hg, e])
    · refine ⟨_, rfl, .inr ⟨hn', _, rfl, ?_⟩⟩
      rw [if_pos rfl]
      exact back _ s2 hn'.ok
end
end Pf
end
section
namespace Pf
open PySem PySem.Spec PyProof.Rows L2 Ow StX
open SX (S)
def isDig (c : Nat) : Bool := decide (48 ≤ c) && decide (c ≤ 57)
theorem low_dig {c : Nat} (h : c < 128) : Unicode.isDigit c = isDig c := by
  have z : ∀ c : Fin 128, Unicode.isDigit c.val = isDig c.val := by decide +kernel
  exact z ⟨c, h⟩
theorem in_ten {c : Nat} : decide (c ∈ (Str.ofString "0123456789").cps.toList) = isDig c := by
  have e : (Str.ofString "0123456789").cps.toList = [48, 49, 50, 51, 52, 53, 54, 55, 56, 57] := by decide +kernel
  rw [e, Bool.eq_iff_iff]
  unfold isDig
  simp only [List.mem_cons, List.not_mem_nil, or_false, decide_eq_true_eq, Bool.and_eq_true]
  omega
theorem good_low {s : Str} (h : ∀ c ∈ s.cps.toList, c < 128) : goodS s = (decide (1 ≤ s.length) && decide (s.length ≤ 200) && s.cps.toList.all isDig) := by
  unfold goodS
  have e1 : Txt.isascii s = true := by
    show (s.cps.all fun c => decide (c < 128)) = true
    rw [← Array.all_toList]
    exact List.all_eq_true.mpr fun c hc => decide_eq_true (h c hc)
  have e2 : Txt.isdigit s = (decide (1 ≤ s.length) && s.cps.toList.all isDig) := by
    show (decide (s.length > 0) && s.cps.all fun c => Unicode.isDigit c) = _
    rw [← Array.all_toList]
    congr 1
    rw [Bool.eq_iff_iff, List.all_eq_true, List.all_eq_true]
    exact ⟨fun z c hc => by rw [← low_dig (h c hc)]; exact z c hc, fun z c hc => by rw [low_dig (h c hc)]; exact z c hc⟩
  rw [e1, e2, Bool.true_and, Bool.eq_iff_iff]
  simp only [Bool.and_eq_true, decide_eq_true_eq]
  constructor
  · rintro ⟨⟨a, b⟩, c⟩; exact ⟨⟨a, by omega⟩, b⟩
  · rintro ⟨⟨a, c⟩, b⟩; exact ⟨⟨a, b⟩, by omega⟩
theorem dp_signs {K : PySem.W.Frag} {H : Hp} : ∀ L : List Nat, DpAll K H (L.map fun c => V.str ⟨#[c]⟩) (L.map fun c => PyData.str ⟨#[c]⟩)
  | [] => .nil
  | c :: L => .cons (.str _) (dp_signs L)
theorem lay_signs : ∀ L : List Nat, (∀ c ∈ L, c < 128) → PyData.canLayAll0 (L.map fun c => PyData.str ⟨#[c]⟩) = true ∧ PyData.depthAll (L.map fun c => PyData.str ⟨#[c]⟩) = 0
  | [], _ => ⟨rfl, by simp [PyData.depthAll]⟩
  | c :: L, h => by
    obtain ⟨h1, h2⟩ := lay_signs L fun d hd => h d (List.mem_cons_of_mem _ hd)
    have hc := h c List.mem_cons_self
    have ok : PyData.strOk ⟨#[c]⟩ = true := by
      show (#[c].all fun c => decide (c < 0x110000)) = true
      rw [← Array.all_toList]
      simp
      omega
    refine ⟨by simp only [List.map_cons, PyData.canLayAll0, PyData.canLay0, h1, ok]; rfl, ?_⟩
    simp only [List.map_cons, PyData.depthAll, PyData.depth, h2]
    rfl

theorem cmet_mk {K : PySem.W.Frag} {C p g : Addr} {m : Str} {ta : Value} {rest : List Value}
    (h1 : PySem.W.findIn K (.ref C) m = some (some (.ref p)))
    (h2 : PySem.W.findIn K (.type "type") m = some none)
    (h3 : PySem.W.typeIn K (.ref p) = some ta)
    (h5 : PySem.W.specialIn K (.ref p) "__get__" = some (some (.builtin "classmethod.__get__")))
    (h6 : PySem.W.recIn K p "classmethod" = some (.ref g :: rest)) (h7 : PySem.W.fnIn K g = true) (h4 : PySem.W.bareKinds.contains ta = false) :
    ClX.CMet K C (.type "type") m p g := by
  refine ⟨?_, ⟨_, h6⟩, h7⟩
  unfold PySem.W.findCls
  simp only [h2, h1, h3, h4, h5, Option.bind, Builtin.heldUnderItsOwnName]
  rfl
/-- the lines of a page -/
abbrev lns (r : List Nat) : List (List Nat) := TL.spl [10] 0 [] r
def LowL (r : List Nat) : Prop := ∀ c ∈ r, c < 128
theorem spl_mem : ∀ (r acc : List Nat), ∀ p ∈ TL.spl [10] 0 acc r, ∀ c ∈ p, c ∈ acc ∨ c ∈ r
  | [], acc, p, hp, c, hc => by
    rw [TL.spl_nil, List.mem_singleton] at hp
    subst hp
    exact .inl hc
  | d :: r, acc, p, hp, c, hc => by
    cases h : TL.pre [10] (d :: r) with
    | true =>
      rw [TL.spl_hit h] at hp
      rcases List.mem_cons.mp hp with rfl | hp
      · exact .inl hc
      · rcases spl_mem r [] p hp c hc with h | h
        · cases h
        · exact .inr (List.mem_cons_of_mem _ h)
    | false =>
      rw [TL.spl_miss h] at hp
      rcases spl_mem r (acc ++ [d]) p hp c hc with h | h
      · rcases List.mem_append.mp h with h | h
        · exact .inl h
        · rw [List.mem_singleton.mp h]
          exact .inr List.mem_cons_self
      · exact .inr (List.mem_cons_of_mem _ h)
theorem nlS : Str.ofString "\n" = S [10] := by decide +kernel
theorem split_lns (r : List Nat) : Txt.split (S r) (Str.ofString "\n") = (lns r).map S := by
  rw [nlS]
  exact SX.split_S (by simp) (by decide)
theorem lns_low {r : List Nat} (h : LowL r) : ∀ p ∈ lns r, LowL p := fun p hp c hc => by
  rcases spl_mem r [] p hp c hc with z | z
  · cases z
  · exact h c z
theorem lns_len {r : List Nat} : (lns r).length ≤ r.length + 2 := by
  have h := split_le (S r) (Str.ofString "\n")
  rw [split_lns, List.length_map, SX.S_len] at h
  exact h
theorem lns_pos {r : List Nat} : 1 ≤ (lns r).length := by
  have h := split_pos (S r) (Str.ofString "\n")
  rw [split_lns, List.length_map] at h
  exact h
theorem lns_short {r p : List Nat} (h : p ∈ lns r) : p.length ≤ r.length := by
  have z := part_short (x := S r) (y := Str.ofString "\n") (a := S p) (by rw [split_lns]; exact List.mem_map_of_mem h)
  rw [SX.S_len, SX.S_len] at z
  exact z
theorem join_lns (r : List Nat) : TL.joinL [10] (lns r) = r := by
  have h := StrLaws.join_split (S r) (Str.ofString "\n")
  rw [split_lns, ← TL.join_eq, nlS, SX.join_S] at h
  exact SX.S_inj h
theorem lns_join {rs : List (List Nat)} (h0 : rs ≠ []) (h : ∀ p ∈ rs, (10 : Nat) ∉ p) : lns (TL.joinL [10] rs) = rs := SX.spl_join h0 h
/-- where a page is wrong -/
def dueT (ls : List (List Nat)) : Option Nat := match wrongV (rowsV (ls.take 200)) with
  | some k => some k
  | none => if ls.length > 200 then some 200 else none
theorem good_of {ls : List (List Nat)} (h0 : 1 ≤ ls.length) (hl : ∀ p ∈ ls, LowL p) (h : dueT ls = none) : ∃ w, Good w ls := by
  unfold dueT at h
  cases hw : wrongV (rowsV (ls.take 200)) with
  | some k => rw [hw] at h; cases h
  | none =>
    rw [hw] at h
    have h : (if ls.length > 200 then some 200 else none) = (none : Option Nat) := h
    by_cases hn : ls.length > 200
    · rw [if_pos hn] at h; cases h
    · rw [List.take_of_length_le (by omega)] at hw
      obtain ⟨r0, t, rfl⟩ : ∃ r0 t, ls = r0 :: t := by
        cases ls with
        | nil => exact absurd h0 (by decide)
        | cons a b => exact ⟨_, _, rfl⟩
      have all : ∀ r ∈ r0 :: t, okV (.str (S r0)) (.str (S r)) = true := fun r hr => by
        have z : (rowsV (r0 :: t)).findIdx? (fun v => !okV (.str (S r0)) v) = none := hw
        rw [List.findIdx?_eq_none_iff] at z
        have q := z (.str (S r)) (List.mem_map_of_mem (f := fun r => V.str (S r)) hr)
        simpa using q
      have one : ∀ r ∈ r0 :: t, 1 ≤ r.length ∧ r.length ≤ 200 ∧ DigL r ∧ r.length = r0.length := fun r hr => by
        have q := all r hr
        have q : (goodS (S r) && decide ((S r).length = (S r0).length)) = true := q
        rw [good_low (s := S r) (hl r hr), SX.S_len, SX.S_len] at q
        simp only [Bool.and_eq_true, decide_eq_true_eq, List.all_eq_true] at q
        obtain ⟨⟨⟨a1, a2⟩, a3⟩, a4⟩ := q
        refine ⟨a1, a2, fun c hc => ?_, a4⟩
        have := a3 c hc
        unfold isDig at this
        simp only [Bool.and_eq_true, decide_eq_true_eq] at this
        exact this
      have z0 := one r0 List.mem_cons_self
      exact ⟨r0.length, by omega, by omega, z0.1, z0.2.1, fun r hr => ⟨(one r hr).2.2.2, (one r hr).2.2.1⟩⟩
theorem due_good {w : Nat} {ls : List (List Nat)} (g : Good w ls) : dueT ls = none := by
  have hl := g.l1
  have hw : wrongV (rowsV (ls.take 200)) = none := by
    rw [List.take_of_length_le hl]
    cases ls with
    | nil => rfl
    | cons r0 t =>
      refine find_no fun j u hu => ?_
      obtain ⟨r, hr, rfl⟩ := List.mem_map.mp (List.mem_of_getElem? hu)
      obtain ⟨h1, h2⟩ := g.row r hr
      have h0 := (g.row r0 List.mem_cons_self).1
      have q1 := g.w0
      have q2 := g.w1
      have e : goodS (S r) = true := by
        unfold goodS
        rw [digL_ascii h2, digL_digit h2 (by omega), SX.S_len, decide_eq_true (by omega)]
        rfl
      simp [okV, e, SX.S_len, h1, h0]
  unfold dueT
  rw [hw]
  exact if_neg (by omega)
theorem cutV_to {xs : List V} {n : Nat} : cutV xs none (some (n : Int)) = xs.take n := by
  unfold cutV
  rw [HT.sIx_nat, HT.sIx_none, List.drop_zero, Nat.sub_zero]
  by_cases h : n ≤ xs.length
  · rw [Nat.min_eq_left h]
  · rw [Nat.min_eq_right (by omega), List.take_of_length_le (Nat.le_refl _), List.take_of_length_le (by omega)]
def Out2 (B : Addr) (n m : Str) (H : Hp) (E : XK) (v u : V) : Prop := ∀ d, H d = none → E (.ref B) (some d) (upd H d (.xd [(m, u), (n, v)]))
def spStr (C : Addr) : Sp := fun vs H Q _ => ∃ (x : Addr) (w : Nat) (rs : List (List Nat)), vs = [.ref x] ∧ Pic H C x rs ∧ Good w rs ∧ Q (.str (S (TL.joinL [10] rs))) H
/-- a value that is no text -/
def NoStrA (K : PySem.W.Frag) (H : Hp) (v : V) : Prop := ∃ t : Value, TyX K H v t ∧ PySem.W.kitOne K t (.type "str") = some false
def spRead (K : PySem.W.Frag) (C B : Addr) : Sp := fun vs H Q E => ∃ v : V, vs = [.ref C, v] ∧
  ((NoStrA K H v ∧ Out2 B "line" "word" H E (.int 0) (.int 0)) ∨ ∃ r : List Nat, v = .str (S r) ∧ LowL r ∧ r.length ≤ 10000 ∧
    ((dueT (lns r) = none ∧ ∀ x H', Same H H' → H x = none → Pic H' C x (lns r) → Q (.ref x) H') ∨ ∃ d : Nat, dueT (lns r) = some d ∧ ∀ H', Same H H' → Out2 B "line" "word" H' E (.int (d : Nat)) (.int 0)))
section
variable {P : Program} {w : World} {K : PySem.W.Frag} {mg : Str → Option Value} {base : Heap} {a : Adr}
set_option maxHeartbeats 4000000
theorem ok_badtext (T : Txt K mg a) : ∃ fd, FnOk P w K mg base CX0 1 a.BadText_init fd ["self", "line", "word"] (spErr2 a.BadText "line" "word") ∧ Binds K fd ["self", "line", "word"] [] := by
  refine T.d_BadText_init.okB sc_BadText_init (fun _ _ _ _ _ _ us hl => match us, hl with | [_, _, _], _ => rfl) (fun vs H Q E h => by obtain ⟨b, v, u, rfl, _⟩ := h; rfl) (fun cdv A outer s H vs Q E hr h => ?_)
  obtain ⟨b, v, u, rfl, hb, k⟩ := h
  refine ⟨_, (pss_cons (ps_ost (pv 0) (pv 1))
      (pss_one (ps_ost (pv 0) (pv 2)))), ?_⟩
  refine ⟨_, rfl, _, rfl, b, _, rfl, T.e_BadText.ox, T.a_BadText_line, .inl ⟨hb, fun d hd n => ?_⟩⟩
  refine ⟨_, rfl, _, rfl, b, _, rfl, T.e_BadText.ox, T.a_BadText_word, .inr ⟨d, [("line", v)], upd_same, by rw [upd_ne n]; exact upd_same, ?_⟩⟩
  refine ⟨by show 1 ≤ 900; decide, ?_⟩
  have e := k d hd n
  have z : upd (upd (upd H d (exd d [("line", v)])) b (exo b a.BadText (some d))) d (exd d [("word", u), ("line", v)]) = upd (upd H d (exd d [("word", u), ("line", v)])) b (exo b a.BadText (some d)) := by
    funext y
    by_cases e1 : y = d
    · subst e1
      rw [upd_same, upd_ne n, upd_same]
    · by_cases e2 : y = b
      · subst e2
        rw [upd_ne e1, upd_same, upd_same]
      · rw [upd_ne e1, upd_ne e2, upd_ne e1, upd_ne e2, upd_ne e1]
  exact z ▸ e
theorem join_size {w : Nat} {rs : List (List Nat)} (g : Good w rs) : ((rs.map S).map (·.length)).sum + (rs.map S).length * (Str.ofString "\n").length ≤ 16777216 := by
  have len : ∀ rs : List (List Nat), (∀ r ∈ rs, r.length ≤ 200) → ((rs.map S).map (·.length)).sum ≤ 200 * rs.length := by
    intro rs
    induction rs with
    | nil => intro _; simp
    | cons r t ih =>
      intro h
      have h1 := ih fun s q => h s (List.mem_cons_of_mem _ q)
      have h2 := h r List.mem_cons_self
      rw [List.map_cons, List.map_cons, List.sum_cons, SX.S_len, List.length_cons]
      omega
  have h1 := len rs fun r hr => g.len hr
  have h2 := g.l1
  have h3 : (Str.ofString "\n").length = 1 := by decide +kernel
  rw [h3, List.length_map]
  omega
theorem ok_str (T : Txt K mg a) : FnR P w K mg base CX0 1 a.Picture_str (spStr a.Picture) := by
  refine T.d_Picture_str.ok sc_Picture_str (fun _ _ _ _ _ _ us hl => match us, hl with | [_], _ => rfl) (fun vs H Q E h => by obtain ⟨x, w, rs, rfl, _⟩ := h; rfl) (fun cdv A outer s H vs Q E hr h => ?_)
  obtain ⟨x, wd, rs, rfl, ⟨dx, t, hx, ht⟩, g, k⟩ := h
  refine ⟨_, (pss_one (ps_ret (pe_join pe_str (pe_fld (pv 0) rfl)))), ?_⟩
  simp only [tSeq, tIfS, tTest, tB, tAnd, tOr, tNot, tAndV, tOrV, tNotV, tIf, tOp, tUn, tChain, rEq, rNe, rI0, rI, rU, tCallR, tCons, tNil, tC, tVar, tRet, tRetN, tTup_k, tLst_k, tCB, tNext, tAsg, gName, gTup, gCons, gNil, tDrop, tPar, tFld, ClX.tCVal, tPropR, rBin, rBinT, rNeOwn, rSetL_k, gSub, tMakeK_k, tMethR, rInO, tDNewK_k, tYes, wipe, tMakeR_k, tSMeth, tSMethK, rMulS, decide_true, tNever, sFld, rIsiT, and_false, rListOf, rTupOf, rLenSeq, rIxL, rIxT, rIxS, rCat_k, rRep_k, rSlL_k, rSlS, rNewStrs_k, rAppend_k, tBM, tBM0, tM0, tM1, tSl, tNoPart, tPart, tLc_k, tFor_k, iList, iTup, iEnumT, iRng1, iRng2, iRng2L, iStr, L2.start, List.map, List.length_cons, List.length_nil, List.cons_append, List.nil_append, List.getElem?_cons_succ, List.getElem?_cons_zero, Option.some.injEq, V.int.injEq, V.bl.injEq, V.str.injEq, V.ref.injEq, exists_eq_left', exists_eq_left, and_assoc, exists_and_left, exists_eq, exists_eq', true_and, and_true, List.set_cons_zero, List.set_cons_succ, List.set, decide_eq_true_eq, Bool.not_eq_true', if_true, if_false, rIx, cx_K, nox_K, List.replicate_succ, List.replicate_zero, Nat.reduceSub, Bool.true_eq_false, Bool.false_eq_true, Nat.reduceAdd, List.cons.injEq, reduceCtorEq, false_and, false_or, or_false, tAug, rSetO, rJoin, rNewStrs_k, tMakeL, rStrO, ClX.tCMeth]
  refine ⟨_, dx, _, hx, T.c_Picture.cl, T.a_Picture__rows, _, rfl, t, rfl, rs.map S, .inr (.inl (.inl (by rw [List.map_map]; exact ht))), join_size g, ?_⟩
  rw [nlS, SX.join_S]
  exact k
theorem read_body (T : Txt K mg a) {fd : FuncData} (F : FunD K "read" "Picture.read" (defArgs s_Picture_read) (defBody s_Picture_read) (defScope s_Picture_read) [] [] a.Picture_read fd) : FnOk P w K mg base (CX P w) 5 a.Picture_read fd ["cls", "text"] (spRead K a.Picture a.BadText) := by
  have G_wrong_row : FnR P w K mg base CX0 2 a.wrong_row (spWrongX K) := ok_wrong_rowX T
  have G_Picture_init : FnR P w K mg base CX0 3 a.Picture_init (spPicInit a.Picture) := ok_pic_init T
  obtain ⟨_, O_BadText, B_BadText⟩ := ok_badtext (P := P) (w := w) (base := base) T
  obtain ⟨uM, cvM⟩ := T.cv_MOST
  refine F.ok sc_Picture_read (fun vs H Q E h => by obtain ⟨v, rfl, _⟩ := h; rfl) (fun cdv A outer s H vs Q E hr h => ?_)
  obtain ⟨v, rfl, h⟩ := h
  refine ⟨_, (pss_cons (ps_if (pt_not (pt_val (pe_callB call_isi (by rfl) T.n_isinstance (by decide +kernel) (pa_cons (pv 1) (pa_cons (pe_bltn (v := .ty "str") (by rfl) T.n_str (by decide +kernel) rfl) pa_nil)))))
          (pss_one (ps_raise rfl (takes_of rfl rfl rfl rfl) (pmk_oex T.e_BadText.ox T.e_BadText.iC T.e_BadText.tI O_BadText (hr.mono (by decide)) B_BadText .nil pass0 rfl T.m_BadText (pa_cons pe_int (pa_cons pe_int pa_nil)))))
          pss_nil)
      (pss_cons (ps_set (i := 2) sc_Picture_read.nd rfl (Or.inl rfl) (pe_split (pv 1) pe_str))
      (pss_cons (ps_set (i := 3) sc_Picture_read.nd rfl (Or.inl rfl) (pe_callR G_wrong_row (hr.mono (by decide)) T.m_wrong_row T.k_wrong_row pass0 (pa_cons (pe_slice sl_list (pv 2) po_none (po_some (ClX.pe_cval (pv 0)))) (pa_cons (ClX.pe_cval (pv 0)) pa_nil))))
      (pss_cons (ps_if (pt_cmpR op_notN (pv 3) pe_non (nomark _))
          (pss_one (ps_raise rfl (takes_of rfl rfl rfl rfl) (pmk_oex T.e_BadText.ox T.e_BadText.iC T.e_BadText.tI O_BadText (hr.mono (by decide)) B_BadText .nil pass0 rfl T.m_BadText (pa_cons (pv 3) (pa_cons pe_int pa_nil)))))
          pss_nil)
      (pss_cons (ps_if (pt_cmpR op_gt (pe_callB call_len_seq (by rfl) T.n_len (by decide +kernel) (pa_cons (pv 2) pa_nil)) (ClX.pe_cval (pv 0)) (nomark _))
          (pss_one (ps_raise rfl (takes_of rfl rfl rfl rfl) (pmk_oex T.e_BadText.ox T.e_BadText.iC T.e_BadText.tI O_BadText (hr.mono (by decide)) B_BadText .nil pass0 rfl T.m_BadText (pa_cons (ClX.pe_cval (pv 0)) (pa_cons pe_int pa_nil)))))
          pss_nil)
      (pss_one (ps_ret (pe_makeL T.M_Picture G_Picture_init (hr.mono (by decide)) (i := 0) rfl (Or.inl rfl) pass0 (pa_cons (pv 2) pa_nil))))))))), ?_⟩
  simp only [tSeq, tIfS, tTest, tB, tAnd, tOr, tNot, tAndV, tOrV, tNotV, tIf, tOp, tUn, tChain, rEq, rNe, rI0, rI, rU, tCallR, tCons, tNil, tC, tVar, tRet, tRetN, tTup_k, tLst_k, tCB, tNext, tAsg, gName, gTup, gCons, gNil, tDrop, tPar, tFld, ClX.tCVal, tPropR, rBin, rBinT, rNeOwn, rSetL_k, gSub, tMakeK_k, tMethR, rInO, tDNewK_k, tYes, wipe, tMakeR_k, tSMeth, tSMethK, rMulS, decide_true, tNever, sFld, rIsiT, and_false, rListOf, rTupOf, rLenSeq, rIxL, rIxT, rIxS, rCat_k, rRep_k, rSlL_k, rSlS, rNewStrs_k, rAppend_k, tBM, tBM0, tM0, tM1, tSl, tNoPart, tPart, tLc_k, tFor_k, iList, iTup, iEnumT, iRng1, iRng2, iRng2L, iStr, L2.start, List.map, List.length_cons, List.length_nil, List.cons_append, List.nil_append, List.getElem?_cons_succ, List.getElem?_cons_zero, Option.some.injEq, V.int.injEq, V.bl.injEq, V.str.injEq, V.ref.injEq, exists_eq_left', exists_eq_left, and_assoc, exists_and_left, exists_eq, exists_eq', true_and, and_true, List.set_cons_zero, List.set_cons_succ, List.set, decide_eq_true_eq, Bool.not_eq_true', if_true, if_false, rIx, cx_K, nox_K, List.replicate_succ, List.replicate_zero, Nat.reduceSub, Bool.true_eq_false, Bool.false_eq_true, Nat.reduceAdd, List.cons.injEq, reduceCtorEq, false_and, false_or, or_false, tAug, rSetO, rJoin, rNewStrs_k, tMakeL, rStrO, ClX.tCMeth]
  rcases h with ⟨⟨t, ht, hk⟩, k⟩ | ⟨r, rfl, lr, hr, h⟩
  · refine ⟨_, _, _, _, false, rfl, .ty _, ht, hk, _, rfl, ?_⟩
    rw [if_pos rfl]
    exact err2_made k
  · refine ⟨_, _, _, _, true, rfl, .ty _, .base (.str _), kit_self, _, rfl, ?_⟩
    rw [if_neg (by decide)]
    refine ⟨⟨_, rfl⟩, _, rfl, by decide +kernel, by rw [SX.S_len]; exact Nat.le_trans (show _ ≤ 20000 by omega) (by decide), ?_⟩
    rw [split_lns]
    refine kN.mk fun ll H1 f1 => ?_
    have l1 : H1 ll = some (.lst (rowsV (lns r))) := by rw [f1.at_, List.map_map]; rfl
    refine ⟨_, T.cr_Picture, _, _, cvM, _, rfl, ll, rfl, _, SqL.of l1, kN.mk fun sl H2 f2 => ?_⟩
    have cut : cutV (rowsV (lns r)) none (some 200) = rowsV ((lns r).take 200) := by
      have z := cutV_to (xs := rowsV (lns r)) (n := 200)
      rw [← List.map_take] at z
      exact z
    have s2 := f2.at_
    rw [cut] at s2
    have tk : (rowsV ((lns r).take 200)).length ≤ 200 := by rw [rowsV_len]; exact List.length_take_le ..
    refine ⟨_, T.cr_Picture, _, _, cvM, sl, _, rfl, .inl s2, by omega, fun y hy => ?_, fun H3 s3 => ?_⟩
    · obtain ⟨p, hp, rfl⟩ := List.mem_map.mp hy
      have := lns_short (List.mem_of_mem_take hp)
      exact .inl ⟨_, rfl, by rw [SX.S_len]; omega⟩
    · have s03 := (f1.same.trans f2.same).trans s3
      have l3 := s3 _ _ (f2.get l1)
      have q1 : dueT (lns r) = _ := rfl
      unfold dueT at q1
      cases hw : wrongV (rowsV ((lns r).take 200)) with
      | some kk =>
        rcases h with ⟨e, _⟩ | ⟨d, e, k⟩
        · unfold dueT at e; rw [hw] at e; cases e
        · unfold dueT at e
          rw [hw] at e
          cases e
          simp only
          rw [if_pos (decide_eq_false fun z => by cases z)]
          exact ⟨_, rfl, err2_made (k H3 s03)⟩
      | none =>
        simp only
        rw [if_neg (by simp)]
        refine ⟨ll, rfl, _, .inl (SqL.of l3), ?_⟩
        refine ⟨_, T.cr_Picture, _, _, cvM, _, rfl, ?_⟩
        rw [rowsV_len]
        by_cases hn : (lns r).length > 200
        · rw [if_pos (by omega)]
          rcases h with ⟨e, _⟩ | ⟨d, e, k⟩
          · unfold dueT at e; rw [hw] at e; simp [hn] at e
          · unfold dueT at e
            rw [hw] at e
            have e : (if (lns r).length > 200 then some 200 else none) = some d := e
            rw [if_pos hn] at e
            cases e
            exact ⟨_, rfl, _, _, _, _, rfl, T.cr_Picture, cvM, err2_made (k H3 s03)⟩
        · rw [if_neg (by omega)]
          have en : dueT (lns r) = none := by unfold dueT; rw [hw]; exact if_neg hn
          rcases h with ⟨_, k⟩ | ⟨d, e, _⟩
          · obtain ⟨w', g⟩ := good_of lns_pos (lns_low lr) en
            exact newPic g (.inl l3) fun x H4 s4 n4 p4 => k x H4 (s03.trans s4) (none_back s03 n4) p4
          · rw [en] at e; cases e
theorem ok_read (T : Txt K mg a) : FnR P w K mg base (CX P w) 5 a.Picture_read (spRead K a.Picture a.BadText) := by
  obtain ⟨fd, F⟩ := id T.d_Picture_read
  exact ((read_body T F).raw (F.bindsN (fun _ _ _ _ _ _ us hl => match us, hl with | [_, _], _ => rfl)) .nil).imp fun vs H Q E h => by rw [List.append_nil]; exact h
theorem ok_readF (T : Txt K mg a) : ∃ fd, FnOk P w K mg base (CX P w) 5 a.Picture_read fd ["cls", "text"] (spRead K a.Picture a.BadText) ∧ KBn K fd ["cls", "text"] 1 ["text"] (fun us ws => us ++ ws.reverse) (fun vs zs => vs ++ zs.reverse) := by
  obtain ⟨fd, F⟩ := id T.d_Picture_read
  exact ⟨fd, read_body T F, kbn0 F (fun r1 r2 => r1.append (vals_rev r2)) (fun kV doc pm an cdv ct us ws hu hw => match us, ws, hu, hw with | [_], [_], _, _ => rfl)⟩
end
end Pf
end
section
namespace Pf
open PySem PySem.Spec PyProof.Rows L2 Ow StX
open SX (S)
abbrev dueV (o : Option Nat) : V := match o with | some d => .int (d : Nat) | none => .non
def spLDue : Sp := fun vs H Q _ => ∃ r : List Nat, vs = [.str (S r)] ∧ LowL r ∧ r.length ≤ 10000 ∧ ∀ H', Same H H' → Q (dueV (dueT (lns r))) H'
section
variable {P : Program} {w : World} {K : PySem.W.Frag} {mg : Str → Option Value} {base : Heap} {a : Adr}
set_option maxHeartbeats 4000000
theorem ok_ldue (T : Txt K mg a) : FnR P w K mg base CX0 2 a._law_due spLDue := by
  refine T.d__law_due.ok sc__law_due (fun _ _ _ _ _ _ us hl => match us, hl with | [_], _ => rfl) (fun vs H Q E h => by obtain ⟨r, rfl, _⟩ := h; rfl) (fun cdv A outer s H vs Q E hr h => ?_)
  obtain ⟨r, rfl, lr, hr', k⟩ := h
  refine ⟨_, (pss_cons (ps_set (i := 1) sc__law_due.nd rfl (Or.inl rfl) (pe_split (pv 0) pe_str))
      (pss_cons (ps_for PassesOwn.never rfl (pi_range1 rfl T.n_range (pa_cons (pe_callB (call_min2 rfl) (by rfl) T.n_min (by decide +kernel) (pa_cons (pe_callB call_len_seq (by rfl) T.n_len (by decide +kernel) (pa_cons (pv 1) pa_nil)) (pa_cons pe_int pa_nil))) pa_nil)) (pg_name (i := 2) sc__law_due.nd rfl (Or.inl rfl))
          (pss_cons (ps_setLc (i := 3) (own := [("_law_sign", 4)]) (g := gName 4) (by rfl) sc__law_due.nd rfl rfl (sw_true rfl rfl rfl (by decide +kernel)) (pi_str (pe_ix ix_list (pv 1) (pv 2) (fun _ _ => rfl))) (blkOk_by (own := [("_law_sign", 4)]) (N := ["_law_page", "_law_lines_here", "_law_k", "_law_wrong", "_law_sign"]) (sc := defScope s__law_due) (by decide +kernel)) (fun _ _ _ _ _ => (pg_name (i := 4) sc__law_due.nd rfl (Or.inl rfl))) (fun _ _ _ _ _ => (pts_one (pt_cmpR op_notIn_sign (pv 4) pe_str (by rfl)))) (fun _ _ _ _ _ => (pv 4)))
          (pss_one (ps_if (PW.pt (pw_or (pt_cmpR (op_neD hr.units) (pv 3) (pe_lst pa_nil) (nomark _)) (pw_or (pt_not (pt_chain op_le op_le pe_int (pe_callB call_len_str (by rfl) T.n_len (by decide +kernel) (pa_cons (pe_ix ix_list (pv 1) (pv 2) (fun _ _ => rfl)) pa_nil)) pe_int)) (pw_or1 (pt_cmpR op_ne (pe_callB call_len_str (by rfl) T.n_len (by decide +kernel) (pa_cons (pe_ix ix_list (pv 1) (pv 2) (fun _ _ => rfl)) pa_nil)) (pe_callB call_len_str (by rfl) T.n_len (by decide +kernel) (pa_cons (pe_ix ix_list (pv 1) pe_int (fun _ _ => rfl)) pa_nil)) (nomark _))))))
              (pss_one (ps_ret (pv 2)))
              pss_nil))))
      (pss_one (ps_ret (pe_ifExp (pt_cmpR op_gt (pe_callB call_len_seq (by rfl) T.n_len (by decide +kernel) (pa_cons (pv 1) pa_nil)) pe_int (nomark _)) pe_int pe_non))))), ?_⟩
  simp only [tSeq, tIfS, tTest, tB, tAnd, tOr, tNot, tAndV, tOrV, tNotV, tIf, tOp, tUn, tChain, rEq, rNe, rI0, rI, rU, tCallR, tCons, tNil, tC, tVar, tRet, tRetN, tTup_k, tLst_k, tCB, tNext, tAsg, gName, gTup, gCons, gNil, tDrop, tPar, tFld, ClX.tCVal, tPropR, rBin, rBinT, rNeOwn, rSetL_k, gSub, tMakeK_k, tMethR, rInO, tDNewK_k, tYes, wipe, tMakeR_k, tSMeth, tSMethK, rMulS, decide_true, tNever, sFld, rIsiT, and_false, rListOf, rTupOf, rLenSeq, rIxL, rIxT, rIxS, rCat_k, rRep_k, rSlL_k, rSlS, rNewStrs_k, rAppend_k, tBM, tBM0, tM0, tM1, tSl, tNoPart, tPart, tLc_k, tFor_k, iList, iTup, iEnumT, iRng1, iRng2, iRng2L, iStr, L2.start, List.map, List.length_cons, List.length_nil, List.cons_append, List.nil_append, List.getElem?_cons_succ, List.getElem?_cons_zero, Option.some.injEq, V.int.injEq, V.bl.injEq, V.str.injEq, V.ref.injEq, exists_eq_left', exists_eq_left, and_assoc, exists_and_left, exists_eq, exists_eq', true_and, and_true, List.set_cons_zero, List.set_cons_succ, List.set, decide_eq_true_eq, Bool.not_eq_true', if_true, if_false, rIx, cx_K, nox_K, List.replicate_succ, List.replicate_zero, Nat.reduceSub, Bool.true_eq_false, Bool.false_eq_true, Nat.reduceAdd, List.cons.injEq, reduceCtorEq, false_and, false_or, or_false, tAug, rSetO, rJoin, rNewStrs_k, tMakeL, rStrO, ClX.tCMeth]
  refine ⟨by decide +kernel, by rw [SX.S_len]; exact Nat.le_trans (show _ ≤ 20000 by omega) (by decide), ?_⟩
  rw [split_lns]
  refine kN.mk fun ll H1 f1 => ?_
  have l1 : H1 ll = some (.lst (rowsV (lns r))) := by rw [f1.at_, List.map_map]; rfl
  have lp := lns_pos (r := r)
  have ln := lns_len (r := r)
  refine ⟨ll, rfl, _, .inl (SqL.of l1), ?_⟩
  rw [rowsV_len]
  have em : (if (200 : Int) < ((lns r).length : Nat) then (200 : Int) else ((lns r).length : Nat)) = ((min (lns r).length 200 : Nat) : Int) := by split <;> omega
  rw [em]
  refine ⟨by omega, by omega, ?_⟩
  rw [Int.toNat_natCast]
  obtain ⟨r0, hr0⟩ : ∃ r0, (lns r)[0]? = some r0 := ⟨_, List.getElem?_eq_getElem (by omega)⟩
  have a0 : atI (rowsV (lns r)) 0 = some (.str (S r0)) := atI_nat (j := 0) (by rw [List.getElem?_map, hr0]; rfl)
  have low := lns_low lr
  have len0 := lns_short (List.mem_of_getElem? hr0)
  have head : (lns r).take 200 = r0 :: ((lns r).take 200).tail := by
    cases e : lns r with
    | nil => rw [e] at lp; exact absurd lp (by decide)
    | cons x y => rw [e] at hr0; cases hr0; rfl
  have wr : ∀ (i : Nat) (p : List Nat), i < min (lns r).length 200 → (∀ (j : Nat) (q : List Nat), j < i → (lns r)[j]? = some q → okV (.str (S r0)) (.str (S q)) = true) → (lns r)[i]? = some p → okV (.str (S r0)) (.str (S p)) = false → dueT (lns r) = some i := fun i p hi ok hp hbad => by
    have z : wrongV (rowsV ((lns r).take 200)) = some i := by
      rw [head]
      refine find_at (rowsV (r0 :: ((lns r).take 200).tail)) i (.str (S p)) (fun j u hj hu => ?_) ?_ (by show (!okV (.str (S r0)) (.str (S p))) = true; rw [hbad]; rfl)
      · rw [← head] at hu
        obtain ⟨q, hq, rfl⟩ := rowsV_get hu
        rw [List.getElem?_take, if_pos (by omega)] at hq
        show (!okV (.str (S r0)) (.str (S q))) = false
        rw [ok j q hj hq]
        rfl
      · rw [← head, List.getElem?_map, List.getElem?_take, if_pos (by omega), hp]
        rfl
    unfold dueT
    rw [z]
  have fin : (∀ (j : Nat) (q : List Nat), j < min (lns r).length 200 → (lns r)[j]? = some q → okV (.str (S r0)) (.str (S q)) = true) → dueT (lns r) = if (lns r).length > 200 then some 200 else none := fun ok => by
    have z : wrongV (rowsV ((lns r).take 200)) = none := by
      rw [head]
      refine find_no fun j u hu => ?_
      have hu : (rowsV (r0 :: ((lns r).take 200).tail))[j]? = some u := hu
      rw [← head] at hu
      obtain ⟨q, hq, rfl⟩ := rowsV_get hu
      have hj : j < 200 := by
        by_cases h : j < 200
        · exact h
        · rw [List.getElem?_take, if_neg h] at hq; cases hq
      rw [List.getElem?_take, if_pos hj] at hq
      have hj2 := (List.getElem?_eq_some_iff.mp hq).1
      show (!okV (.str (S r0)) (.str (S q))) = false
      rw [ok j q (by omega) hq]
      rfl
    unfold dueT
    rw [z]
  refine kFor.it walk_range (fun i σ H' => Same H H' ∧ H' ll = some (.lst (rowsV (lns r))) ∧ (∀ (j : Nat) (q : List Nat), j < i → (lns r)[j]? = some q → okV (.str (S r0)) (.str (S q)) = true) ∧ ∃ x2 x3 x4, σ = [some (.str (S r)), some (.ref ll), x2, x3, x4]) ⟨f1.same, l1, fun j q h => absurd h (Nat.not_lt_zero _), _, _, _, rfl⟩ (fun _ _ _ _ _ => trivial) (fun i xv σ H2 H3 hi hP hY => ?_) fun σ H2 hP => ?_
  · obtain ⟨s2, l2, ok, x2, x3, x4, rfl⟩ := hP
    obtain ⟨rfl, rfl⟩ := hY
    obtain ⟨p, hp⟩ : ∃ p, (lns r)[i]? = some p := ⟨_, List.getElem?_eq_getElem (by omega)⟩
    have lowp := low p (List.mem_of_getElem? hp)
    have lenp := lns_short (List.mem_of_getElem? hp)
    have hv : (rowsV (lns r))[i]? = some (.str (S p)) := by rw [List.getElem?_map, hp]; rfl
    have ek : okV (.str (S r0)) (.str (S p)) = ((decide (1 ≤ p.length) && decide (p.length ≤ 200) && p.all isDig) && decide (p.length = r0.length)) := by
      have z : okV (.str (S r0)) (.str (S p)) = (goodS (S p) && decide ((S p).length = (S r0).length)) := rfl
      rw [z, good_low (s := S p) lowp, SX.S_len, SX.S_len]
    simp only [Int.zero_add, tSeq, tIfS, tTest, tB, tAnd, tOr, tNot, tAndV, tOrV, tNotV, tIf, tOp, tUn, tChain, rEq, rNe, rI0, rI, rU, tCallR, tCons, tNil, tC, tVar, tRet, tRetN, tTup_k, tLst_k, tCB, tNext, tAsg, gName, gTup, gCons, gNil, tDrop, tPar, tFld, ClX.tCVal, tPropR, rBin, rBinT, rNeOwn, rSetL_k, gSub, tMakeK_k, tMethR, rInO, tDNewK_k, tYes, wipe, tMakeR_k, tSMeth, tSMethK, rMulS, decide_true, tNever, sFld, rIsiT, and_false, rListOf, rTupOf, rLenSeq, rIxL, rIxT, rIxS, rCat_k, rRep_k, rSlL_k, rSlS, rNewStrs_k, rAppend_k, tBM, tBM0, tM0, tM1, tSl, tNoPart, tPart, tLc_k, tFor_k, iList, iTup, iEnumT, iRng1, iRng2, iRng2L, iStr, L2.start, List.map, List.length_cons, List.length_nil, List.cons_append, List.nil_append, List.getElem?_cons_succ, List.getElem?_cons_zero, Option.some.injEq, V.int.injEq, V.bl.injEq, V.str.injEq, V.ref.injEq, exists_eq_left', exists_eq_left, and_assoc, exists_and_left, exists_eq, exists_eq', true_and, and_true, List.set_cons_zero, List.set_cons_succ, List.set, decide_eq_true_eq, Bool.not_eq_true', if_true, if_false, rIx, cx_K, nox_K, List.replicate_succ, List.replicate_zero, Nat.reduceSub, Bool.true_eq_false, Bool.false_eq_true, Nat.reduceAdd, List.cons.injEq, reduceCtorEq, false_and, false_or, or_false, tAug, rSetO, rJoin, rNewStrs_k, tMakeL, rStrO, ClX.tCMeth]
    refine ⟨_, SqL.of l2, _, atI_nat hv, _, rfl, ?_⟩
    have back : ∀ H', Same H H' → okV (.str (S r0)) (.str (S p)) = false → Q (.int (i : Nat)) H' := fun H' s h => by
      have z := k H' s
      rw [wr i p hi ok hp h] at z
      exact z
    refine kLc.all walk_str (fun n => ((p.take n).filter fun c => !isDig c).map fun c => V.str ⟨#[c]⟩) rfl (fun _ _ => trivial) (fun D n x HA HB hn cl hY => ?_) fun D HA fA => ?_
    · obtain ⟨rfl, c, hc, rfl⟩ := hY
      have hc' : p[n]? = some c := by rw [← hc]; exact (Array.getElem?_toList (xs := (S p).cps)).symm ▸ rfl
      simp only [in_ten, tSeq, tIfS, tTest, tB, tAnd, tOr, tNot, tAndV, tOrV, tNotV, tIf, tOp, tUn, tChain, rEq, rNe, rI0, rI, rU, tCallR, tCons, tNil, tC, tVar, tRet, tRetN, tTup_k, tLst_k, tCB, tNext, tAsg, gName, gTup, gCons, gNil, tDrop, tPar, tFld, ClX.tCVal, tPropR, rBin, rBinT, rNeOwn, rSetL_k, gSub, tMakeK_k, tMethR, rInO, tDNewK_k, tYes, wipe, tMakeR_k, tSMeth, tSMethK, rMulS, decide_true, tNever, sFld, rIsiT, and_false, rListOf, rTupOf, rLenSeq, rIxL, rIxT, rIxS, rCat_k, rRep_k, rSlL_k, rSlS, rNewStrs_k, rAppend_k, tBM, tBM0, tM0, tM1, tSl, tNoPart, tPart, tLc_k, tFor_k, iList, iTup, iEnumT, iRng1, iRng2, iRng2L, iStr, L2.start, List.map, List.length_cons, List.length_nil, List.cons_append, List.nil_append, List.getElem?_cons_succ, List.getElem?_cons_zero, Option.some.injEq, V.int.injEq, V.bl.injEq, V.str.injEq, V.ref.injEq, exists_eq_left', exists_eq_left, and_assoc, exists_and_left, exists_eq, exists_eq', true_and, and_true, List.set_cons_zero, List.set_cons_succ, List.set, decide_eq_true_eq, Bool.not_eq_true', if_true, if_false, rIx, cx_K, nox_K, List.replicate_succ, List.replicate_zero, Nat.reduceSub, Bool.true_eq_false, Bool.false_eq_true, Nat.reduceAdd, List.cons.injEq, reduceCtorEq, false_and, false_or, or_false, tAug, rSetO, rJoin, rNewStrs_k, tMakeL, rStrO, ClX.tCMeth]
      have tk : p.take (n + 1) = p.take n ++ [c] := by rw [List.take_add_one, hc']; rfl
      refine ⟨_, rfl, ?_⟩
      rw [tk, List.filter_append, List.map_append]
      cases hd : isDig c with
      | true =>
        rw [if_neg (by decide)]
        have e2 : ([c] : List Nat).filter (fun c => !isDig c) = [] := by simp [hd]
        rw [e2, List.map_nil, List.append_nil]
        exact cl
      | false =>
        rw [if_pos (by decide)]
        have e2 : ([c] : List Nat).filter (fun c => !isDig c) = [c] := by simp [hd]
        rw [e2]
        refine kApp.mk cl (Same.refl _) ?_ rfl
        rw [List.length_map]
        exact Nat.lt_of_le_of_lt (Nat.le_trans (List.length_filter_le ..) (Nat.le_trans (List.length_take_le' ..) (show p.length ≤ 20000 by omega))) (by decide)
    · have full : p.take (S p).cps.size = p := List.take_of_length_le (Nat.le_refl _)
      rw [full] at fA
      refine kNew.mk (by show 0 ≤ sizeLine; decide) fun e0 HC fC => ?_
      obtain ⟨y1, y2⟩ := lay_signs (p.filter fun c => !isDig c) fun c hc => lowp c (List.mem_filter.mp hc).1
      have sC := (s2.trans fA.same).trans fC.same
      have lC := fC.get (fA.get l2)
      have e : PyData.eqv (.list ((p.filter fun c => !isDig c).map fun c => PyData.str ⟨#[c]⟩)) (.list []) = p.all isDig := by
        cases hf : p.filter (fun c => !isDig c) with
        | nil =>
          rw [List.filter_eq_nil_iff] at hf
          rw [List.all_eq_true.mpr fun c hc => by have := hf c hc; simpa using this]
          simp [PyData.eqv, PyData.eqvAll]
        | cons c t =>
          have hm : c ∈ p.filter (fun c => !isDig c) := by rw [hf]; exact List.mem_cons_self
          have hm2 := List.mem_filter.mp hm
          have e3 : p.all isDig = false := Bool.eq_false_iff.mpr fun h => by
            have q1 := List.all_eq_true.mp h c hm2.1
            have q2 := hm2.2
            rw [q1] at q2
            cases q2
          rw [e3]
          simp [PyData.eqv, PyData.eqvAll]
      refine ⟨_, .list [], .lst (SqL.of (fC.get fA.at_)) (dp_signs _), .lst (SqL.of fC.at_) .nil, Bool.and_eq_true_iff.mpr ⟨y1, decide_eq_true (by simp only [PyData.depth]; omega)⟩, by decide +kernel, ?_⟩
      rw [e]
      refine ⟨_, rfl, ?_⟩
      cases ha : p.all isDig with
      | false =>
        rw [if_pos (by decide)]
        exact back _ sC (by rw [ek, ha, Bool.and_false, Bool.false_and])
      | true =>
        rw [if_neg (by decide)]
        refine ⟨_, SqL.of lC, _, atI_nat hv, _, rfl, by rw [SX.S_len]; exact Nat.le_trans (show _ ≤ 20000 by omega) (by decide), ?_⟩
        rw [SX.S_len]
        by_cases h1 : 1 ≤ p.length
        · rw [if_pos (by omega)]
          by_cases h2 : p.length ≤ 200
          · rw [if_neg (by simp; omega)]
            refine ⟨_, SqL.of lC, _, atI_nat hv, _, rfl, by rw [SX.S_len]; exact Nat.le_trans (show _ ≤ 20000 by omega) (by decide), _, SqL.of lC, _, a0, _, rfl, by rw [SX.S_len]; exact Nat.le_trans (show _ ≤ 20000 by omega) (by decide), rfl, ?_⟩
            rw [SX.S_len, SX.S_len]
            by_cases h3 : p.length = r0.length
            · rw [if_neg (by simp [h3])]
              refine ⟨sC, lC, fun j q hj hq => ?_⟩
              by_cases hji : j = i
              · subst hji
                rw [hp] at hq
                cases hq
                rw [ek, ha, decide_eq_true h1, decide_eq_true h2, decide_eq_true h3]
                rfl
              · exact ok j q (by omega) hq
            · rw [if_pos (decide_eq_false fun z => h3 (by omega))]
              exact back _ sC (by rw [ek, decide_eq_false h3, Bool.and_false])
          · rw [if_pos (decide_eq_false fun z => h2 (by omega))]
            exact back _ sC (by rw [ek, decide_eq_false h2, Bool.and_false, Bool.false_and, Bool.false_and])
        · rw [if_neg (by omega)]
          exact back _ sC (by rw [ek, decide_eq_false h1, Bool.false_and, Bool.false_and, Bool.false_and])
  · obtain ⟨s2, l2, ok, x2, x3, x4, rfl⟩ := hP
    simp only [tSeq, tIfS, tTest, tB, tAnd, tOr, tNot, tAndV, tOrV, tNotV, tIf, tOp, tUn, tChain, rEq, rNe, rI0, rI, rU, tCallR, tCons, tNil, tC, tVar, tRet, tRetN, tTup_k, tLst_k, tCB, tNext, tAsg, gName, gTup, gCons, gNil, tDrop, tPar, tFld, ClX.tCVal, tPropR, rBin, rBinT, rNeOwn, rSetL_k, gSub, tMakeK_k, tMethR, rInO, tDNewK_k, tYes, wipe, tMakeR_k, tSMeth, tSMethK, rMulS, decide_true, tNever, sFld, rIsiT, and_false, rListOf, rTupOf, rLenSeq, rIxL, rIxT, rIxS, rCat_k, rRep_k, rSlL_k, rSlS, rNewStrs_k, rAppend_k, tBM, tBM0, tM0, tM1, tSl, tNoPart, tPart, tLc_k, tFor_k, iList, iTup, iEnumT, iRng1, iRng2, iRng2L, iStr, L2.start, List.map, List.length_cons, List.length_nil, List.cons_append, List.nil_append, List.getElem?_cons_succ, List.getElem?_cons_zero, Option.some.injEq, V.int.injEq, V.bl.injEq, V.str.injEq, V.ref.injEq, exists_eq_left', exists_eq_left, and_assoc, exists_and_left, exists_eq, exists_eq', true_and, and_true, List.set_cons_zero, List.set_cons_succ, List.set, decide_eq_true_eq, Bool.not_eq_true', if_true, if_false, rIx, cx_K, nox_K, List.replicate_succ, List.replicate_zero, Nat.reduceSub, Bool.true_eq_false, Bool.false_eq_true, Nat.reduceAdd, List.cons.injEq, reduceCtorEq, false_and, false_or, or_false, tAug, rSetO, rJoin, rNewStrs_k, tMakeL, rStrO, ClX.tCMeth]
    refine ⟨_, .inl (SqL.of l2), ?_⟩
    rw [rowsV_len]
    have z := k _ s2
    rw [fin ok] at z
    by_cases hn : (lns r).length > 200
    · rw [if_pos (by omega)]
      rw [if_pos hn] at z
      exact z
    · rw [if_neg (by omega)]
      rw [if_neg hn] at z
      exact z
end
end Pf
end
section
namespace Pf
open PySem PySem.Spec PyProof.Rows L2 Ow StX
open SX (S)
/-! ### what the law does itself -/
/-- what `_law_heard` makes of what it asks -/
def TTh (C0 : Addr) (tl : XK → Hp → VK → Prop) (H : Hp) (Q : VK) : Prop :=
  tl (fun cls d H1 => (cls = .ref C0 ∧ ∃ (dd : Addr) (fs : List (Str × V)) (v0 v1 : V), d = some dd ∧ H1 dd = some (.xd fs) ∧ fs.lookup ("line" : Str) = some v0 ∧ fs.lookup ("word" : Str) = some v1 ∧ kN (.tup [.str "text", v0, v1]) Q H1))
    H (fun v H1 => kNew .lst Q [v] H1)
/-- return [ask()], ask a handed lambda that may raise -/
theorem ret_ask {X : Cx} {f c' : Addr} {q : Str} {tl : XK → Hp → VK → Prop} {W : WX} {n : Str} {p1 p2 pt ps : Pos}
    (act : ∀ E : XK, (∀ cls d σ' H', E cls d H' → W cls d σ' H') → PE X (.Call (.Name n p1) [] [] p2) (fun σZ HZ Q => σZ[0]? = some (some (.ref f)) ∧ HZ c' = some (LamX.CodeO c' q) ∧ tl E HZ Q)) :
    PSs X [.Return (some (.List [.Call (.Name n p1) [] [] p2] pt)) ps] (fun D σ H => ∃ Ech : XK, (∀ cls d σ' H', Ech cls d H' → W cls d σ' H') ∧ σ[0]? = some (some (.ref f)) ∧ H c' = some (LamX.CodeO c' q) ∧
      tl Ech H (fun v H1 => kNew .lst D.rt [v] H1)) := by
  refine ⟨fun pins s' σ H' D I ⟨Ech, hW, h1, h2, h3⟩ => ?_⟩
  exact (pss_one (ps_ret (pe_lst (pa_cons (act Ech hW) pa_nil)))).run pins s' σ H' D I ⟨h1, h2, h3⟩
theorem heard_gives {X : Cx} {a : Adr} {g : Addr} {cdv : Value} {q : Str} (T : Txt X.K X.mg a) : LamX.GivesTo X ["_law_ask", "error"] "_law_heard" (defScope s__law_heard) g cdv (defBody s__law_heard) "_law_ask" q (TTh a.BadText) := by
  intro f c' s H Q tl act hc h
  refine ⟨_, pss_one (ps_try_mix rfl rfl sc__law_heard.nd LamX.takes0 (fun W pn xe tk _ => ret_ask fun E hW => act W pn xe E _ _ tk hW)
    (.named (i := 1) rfl rfl ⟨rfl, by decide, .inl T.m_BadText⟩ (fun b oe cls d pn hz hf => pss_len 2 (by rfl) (pss_one (ps_ret (pe_tup (pa_cons pe_str (pa_cons (pe_xf T.xf_BadText T.a_BadText_line hz hf (pv 1)) (pa_cons (pe_xf T.xf_BadText T.a_BadText_word hz hf (pv 1)) pa_nil)))))))
    (.plain ⟨rfl, by decide, .inl T.m_HoldError⟩ (fun b oe cls d pn hz hf => pss_one (ps_ret (pe_tup (pa_cons pe_str pa_nil)))) .nil))), ?_⟩
  refine ⟨_, fun cls d σ' H' hE => ?_, rfl, hc, h⟩
  obtain ⟨rfl, dd, fs, v0, v1, rfl, hdd, hv0, hv1, k⟩ := hE
  · refine ⟨true, T.xm_BadText_BadText, (fun _ x hx hlen => ?_), fun z => by cases z⟩
    have hs : (σ'.set 1 (some (V.ref x)))[1]? = some (some (V.ref x)) := by
      rw [List.length_set] at hlen
      rw [List.getElem?_set_self (by rw [hlen]; decide)]
    exact ⟨_, hs, rfl, rfl, dd, fs, v0, rfl, hdd, hv0, _, hs, rfl, rfl, dd, fs, v1, rfl, hdd, hv1, (by show 3 ≤ sizeLine; decide), k⟩
/-- _law_heard(lambda: body) -/
theorem pe_heard {X : Cx} {a : Adr} {c T : Addr} {k : Nat} {TL : List (Addr × Str)} {params : Arguments} {body : Expr} {scope : Scope} {t : XK → TE} {p lpos pos : Pos} (D : Txt X.K X.mg a) (hg : Gl X "_law_heard") (TB : LamX.TabB X.base X.mg c T) (hcode : X.env.code = .ref c) (hmT : (T, X.env.qual ++ Str.ofString "<lambda>") ∈ TL)
    (hu : ∀ p : Addr × Str, p ∈ TL → p.1 = T → p.2 = X.env.qual ++ Str.ofString "<lambda>") (hr : Room (k + 2) X.A) (L : LamX.LamS X.env.scope scope) (hdef : defaultsOf params X.env = ([], []))
    (hbind : ∀ (q : Str) (cl : List (Str × Addr)) (pm cv ctv : Value), bindArgs (PySem.W.kla_fn (Str.ofString "<lambda>") q params body scope cl pm cv ctv) ⟨[], []⟩ = pure [])
    (hbody : ∀ (A : Around) (outer : List Env) (s : Shared) (H : Hp) (E : XK) (f c' : Addr), Room k (A.deeper (LamX.lamEnv X scope s.heap.objs.size f c')) → PE (LamX.lamCx X A outer s H E scope f c') body (t E)) :
    PE X (.Call (.Name "_law_heard" p) [.Lambda params body scope lpos] [] pos) (LamX.tLam TL (TTh a.BadText) t) := by
  obtain ⟨fd, FD⟩ := id D.d__law_heard
  have hb : Binds X.K fd ["_law_ask"] [] := FD.bindsN (fun _ _ _ _ _ _ us hl => match us, hl with | [_], _ => rfl)
  obtain ⟨oc, od, dV, kV, doc, pm, an, cdv, ct, osl, rfl, lk, hcd, _, _⟩ := FD.ex
  exact LamX.pe_lamcall hg D.m__law_heard D.k__law_heard lk hcd hb sc__law_heard rfl (Or.inl rfl) (heard_gives D) TB hcode hmT hu hr L hdef hbind hbody
end Pf
end
section
namespace Pf
open PySem PySem.Spec PyProof.Rows L2 Ow StX
open SX (S)
theorem Pen.le {H : Hp} {p c : Addr} {n m : Int} (x : Pen H p c n) (h : n ≤ m) : Pen H p c m := by
  obtain ⟨ns, b, r, h1, h2, h3, h4, h5, h6, h7⟩ := x
  exact ⟨ns, b, r, h1, h2, h3, h4, h5, by omega, h7⟩
theorem Pen.at_p {H : Hp} {p c x : Addr} {n : Int} (P : Pen H p c n) (h : H x = none) : x ≠ p ∧ c ≠ x := by
  obtain ⟨ns, b, r, h1, h2, _⟩ := P
  exact ⟨fun e => (by rw [← e, h] at h1; cases h1), fun e => (by rw [e, h] at h2; cases h2)⟩
theorem Pen.put {H : Hp} {p c x : Addr} {n : Int} {o : HO} (P : Pen H p c n) (hp : x ≠ p) (hc : c ≠ x) : Pen (upd H x o) p c n := by
  obtain ⟨ns, b, r, h1, h2, h⟩ := P
  exact ⟨ns, b, r, by rw [upd_ne (Ne.symm hp)]; exact h1, by rw [upd_ne hc]; exact h2, h⟩
theorem Pen.ne {H : Hp} {p c t : Addr} {n : Int} {o : HO} (x : Pen H p c n) (h : H t = some o) (q : ∀ xs, o ≠ .lst xs) : t ≠ p := by
  obtain ⟨ns, b, r, h1, _⟩ := x
  exact ne_of h h1 (q _)
def spSizes : Sp := fun vs H Q _ => ∃ (p c : Addr) (n : Int), vs = [.ref p] ∧ Pen H p c n ∧ n + 3 ≤ 1048576 ∧ ∀ (t : Addr) (w h : Int) (H' : Hp), 1 ≤ w → w ≤ 200 → 1 ≤ h → h ≤ 200 → (w ≤ 8 ∨ h ≤ 2) → SameBut p H H' → Pen H' p c (n + 3) → H' t = some (.tup [.int w, .int h]) → Q (.ref t) H'
section
variable {P : Program} {w : World} {K : PySem.W.Frag} {mg : Str → Option Value} {base : Heap} {a : Adr}
set_option maxHeartbeats 4000000
theorem ok_sizes (T : Txt K mg a) : FnR P w K mg base CX0 3 a._law_sizes spSizes := by
  have G__law_draw : FnR P w K mg base CX0 1 a._law_draw spPDraw := ok_pdraw T
  have G__law_pick : FnR P w K mg base CX0 2 a._law_pick spPick := ok_pick T
  refine T.d__law_sizes.ok sc__law_sizes (fun _ _ _ _ _ _ us hl => match us, hl with | [_], _ => rfl) (fun vs H Q E h => by obtain ⟨p, c, n, rfl, _⟩ := h; rfl) (fun cdv A outer s H vs Q E hr h => ?_)
  obtain ⟨p, c, n, rfl, hP, hn, k⟩ := h
  refine ⟨_, (pss_cons (ps_if (pt_cmpR op_eq (pe_callR G__law_draw (hr.mono (by decide)) T.m__law_draw T.k__law_draw pass0 (pa_cons (pv 0) (pa_cons pe_int pa_nil))) pe_int (nomark _))
          (pss_one (ps_ret (pe_callR G__law_pick (hr.mono (by decide)) T.m__law_pick T.k__law_pick pass0 (pa_cons (pv 0) (pa_cons (pe_lst (pa_cons (pe_tup (pa_cons pe_int (pa_cons pe_int pa_nil))) (pa_cons (pe_tup (pa_cons pe_int (pa_cons pe_int pa_nil))) (pa_cons (pe_tup (pa_cons pe_int (pa_cons pe_int pa_nil))) (pa_cons (pe_tup (pa_cons pe_int (pa_cons pe_int pa_nil))) pa_nil))))) pa_nil)))))
          pss_nil)
      (pss_one (ps_ret (pe_tup (pa_cons (pe_op op_add pe_int (pe_callR G__law_draw (hr.mono (by decide)) T.m__law_draw T.k__law_draw pass0 (pa_cons (pv 0) (pa_cons pe_int pa_nil)))) (pa_cons (pe_op op_add pe_int (pe_callR G__law_draw (hr.mono (by decide)) T.m__law_draw T.k__law_draw pass0 (pa_cons (pv 0) (pa_cons pe_int pa_nil)))) pa_nil)))))), ?_⟩
  refine ⟨_, rfl, p, c, 8, n, rfl, hP, by omega, by decide, by decide, fun z H1 z0 z1 s1 P1 => ⟨rfl, _, rfl, ite2 (fun hz => ?_) fun hz => ?_⟩⟩
  · refine ⟨_, rfl, (by show 2 ≤ sizeLine; decide), fun t1 h1 => ⟨(by show 2 ≤ sizeLine; decide), fun t2 h2 => ⟨(by show 2 ≤ sizeLine; decide), fun t3 h3 => ⟨(by show 2 ≤ sizeLine; decide), fun t4 h4 => ⟨(by show 4 ≤ sizeLine; decide), fun l hl => ?_⟩⟩⟩⟩⟩
    have m1 := same_new (o := .tup [.int 200, .int 1]) h1
    have m2 := same_new (o := .tup [.int 1, .int 200]) h2
    have m3 := same_new (o := .tup [.int 200, .int 2]) h3
    have m4 := same_new (o := .tup [.int 1, .int 1]) h4
    have m5 := same_new (o := .lst [.ref t1, .ref t2, .ref t3, .ref t4]) hl
    have e1 := m5 _ _ (m4 _ _ (m3 _ _ (m2 _ _ (upd_same (H := H1) (o := .tup [.int 200, .int 1]) (a := t1)))))
    have e2 := m5 _ _ (m4 _ _ (m3 _ _ (upd_same (H := upd H1 t1 (.tup [.int 200, .int 1])) (o := .tup [.int 1, .int 200]) (a := t2))))
    have e3 := m5 _ _ (m4 _ _ (upd_same (H := upd (upd H1 t1 (.tup [.int 200, .int 1])) t2 (.tup [.int 1, .int 200])) (o := .tup [.int 200, .int 2]) (a := t3)))
    have e4 := m5 _ _ (upd_same (H := upd (upd (upd H1 t1 (.tup [.int 200, .int 1])) t2 (.tup [.int 1, .int 200])) t3 (.tup [.int 200, .int 2])) (o := .tup [.int 1, .int 1]) (a := t4))
    have el : upd (upd (upd (upd (upd H1 t1 (.tup [.int 200, .int 1])) t2 (.tup [.int 1, .int 200])) t3 (.tup [.int 200, .int 2])) t4 (.tup [.int 1, .int 1])) l (.lst [.ref t1, .ref t2, .ref t3, .ref t4]) l = some (.lst [.ref t1, .ref t2, .ref t3, .ref t4]) := upd_same
    have mm := m1.trans (m2.trans (m3.trans (m4.trans m5)))
    have hlp : l ≠ p := fun e => by
      obtain ⟨ns, b, r, q, _⟩ := P1
      have z := m4 _ _ (m3 _ _ (m2 _ _ (m1 _ _ q)))
      rw [← e, hl] at z
      cases z
    have P2 := P1.same mm
    clear m1 m2 m3 m4 m5 h1 h2 h3 h4 hl
    generalize upd (upd (upd (upd (upd H1 t1 (.tup [.int 200, .int 1])) t2 (.tup [.int 1, .int 200])) t3 (.tup [.int 200, .int 2])) t4 (.tup [.int 1, .int 1])) l (.lst [.ref t1, .ref t2, .ref t3, .ref t4]) = H2 at *
    refine ⟨p, c, l, n + 1, _, rfl, P2, by omega, el, hlp, (by show 0 < 4; decide), (by show 4 < 1073741824; decide), fun v H3 hv s3 P3 => ?_⟩
    have go : ∀ (t : Addr) (w h : Int), H2 t = some (.tup [.int w, .int h]) → 1 ≤ w → w ≤ 200 → 1 ≤ h → h ≤ 200 → (w ≤ 8 ∨ h ≤ 2) → Q (.ref t) H3 := fun t w h e w0 w1 h0 h1 hwh =>
      k t w h H3 w0 w1 h0 h1 hwh (s1.trans ((SameBut.of mm).trans s3)) (P3.le (by omega)) (s3 _ _ (P2.ne e fun _ z => by cases z) e)
    simp only [List.mem_cons, List.not_mem_nil, or_false] at hv
    rcases hv with rfl | rfl | rfl | rfl
    · exact go _ _ _ e1 (by decide) (by decide) (by decide) (by decide) (by decide)
    · exact go _ _ _ e2 (by decide) (by decide) (by decide) (by decide) (by decide)
    · exact go _ _ _ e3 (by decide) (by decide) (by decide) (by decide) (by decide)
    · exact go _ _ _ e4 (by decide) (by decide) (by decide) (by decide) (by decide)
  · refine ⟨_, rfl, p, c, 8, n + 1, rfl, P1, by omega, by decide, by decide, fun x H2 x0 x1 s2 P2 => ⟨_, _, rfl, rfl, ?_⟩⟩
    refine ⟨_, rfl, p, c, 6, n + 1 + 1, rfl, P2, by omega, by decide, by decide, fun y H3 y0 y1 s3 P3 => ⟨_, _, rfl, rfl, (by show 2 ≤ sizeLine; decide), fun t ht => ?_⟩⟩
    have mt := same_new (o := .tup [.int (1 + x), .int (1 + y)]) ht
    exact k t _ _ _ (by omega) (by omega) (by omega) (by omega) (.inl (by omega)) (s1.trans (s2.trans (s3.trans (SameBut.of mt)))) ((P3.same mt).le (by omega)) upd_same
end
def Dig (s : Str) : Prop := ∃ k : Nat, k < 10 ∧ s = Str.ofString (toString (k : Int))
def Row (wide : Nat) (s : Str) : Prop := ∃ ds : List Str, ds.length = wide ∧ (∀ d ∈ ds, Dig d) ∧ s = Txt.join "" ds ∧ PyData.strOk s = true
theorem dp_strs {K : PySem.W.Frag} {H : Hp} : ∀ ls : List Str, DpAll K H (ls.map V.str) (ls.map PyData.str)
  | [] => .nil
  | i :: r => .cons (.str i) (dp_strs r)
theorem lay_strs : ∀ ls : List Str, (∀ s ∈ ls, PyData.strOk s = true) → PyData.canLayAll0 (ls.map PyData.str) = true ∧ PyData.depthAll (ls.map PyData.str) ≤ 1
  | [], _ => ⟨rfl, by simp [PyData.depthAll]⟩
  | i :: r, h => by
    obtain ⟨h1, h2⟩ := lay_strs r fun s q => h s (List.mem_cons_of_mem _ q)
    refine ⟨by simp only [List.map_cons, PyData.canLayAll0, PyData.canLay0, h1, h i List.mem_cons_self]; rfl, ?_⟩
    simp only [List.map_cons, PyData.depthAll, PyData.depth]
    omega
theorem shaped_strs {ls : List Str} (h : ∀ s ∈ ls, PyData.strOk s = true) : SeqAt.shaped (.list (ls.map PyData.str)) = true := by
  obtain ⟨h1, h2⟩ := lay_strs ls h
  refine Bool.and_eq_true_iff.mpr ⟨h1, decide_eq_true ?_⟩
  simp only [PyData.depth]
  omega
theorem eqv_strs (ls : List Str) : PyData.eqv (.list (ls.map PyData.str)) (.list []) = decide (ls = []) := by
  cases ls with
  | nil => simp [PyData.eqv, PyData.eqvAll]
  | cons i r => simp [PyData.eqv, PyData.eqvAll]
theorem dig_ok {d : Str} (h : Dig d) : PyData.strOk d = true ∧ d.length = 1 := by
  obtain ⟨k, hk, rfl⟩ := h
  match k, hk with
  | 0, _ | 1, _ | 2, _ | 3, _ | 4, _ | 5, _ | 6, _ | 7, _ | 8, _ | 9, _ => exact ⟨by decide +kernel, by decide +kernel⟩
theorem fold_ok : ∀ (rest : List Str) (acc : Array Nat), acc.all (· < 0x110000) = true → (∀ d ∈ rest, PyData.strOk d = true) → (rest.foldl (fun acc p => acc ++ (Str.ofString "").cps ++ p.cps) acc).all (· < 0x110000) = true
  | [], acc, h, _ => h
  | d :: r, acc, h, g => by
    refine fold_ok r _ ?_ fun x q => g x (List.mem_cons_of_mem _ q)
    have hd : d.cps.all (· < 0x110000) = true := g d List.mem_cons_self
    have he : (Str.ofString "").cps.all (· < 0x110000) = true := by decide +kernel
    rw [Array.all_append, Array.all_append, h, he, hd]
    rfl
theorem join_ok {ds : List Str} (h : ∀ d ∈ ds, PyData.strOk d = true) : PyData.strOk (Txt.join "" ds) = true := by
  cases ds with
  | nil => decide +kernel
  | cons d r => exact fold_ok r d.cps (h d List.mem_cons_self) fun x q => h x (List.mem_cons_of_mem _ q)
theorem digs_sum : ∀ {ds : List Str}, (∀ d ∈ ds, Dig d) → (ds.map (·.length)).sum = ds.length
  | [], _ => rfl
  | d :: r, h => by
    rw [List.map_cons, List.sum_cons, digs_sum fun x q => h x (List.mem_cons_of_mem _ q), (dig_ok (h d List.mem_cons_self)).2, List.length_cons]
    omega
theorem atI_last {xs : List V} (h : xs ≠ []) : ∃ v, v ∈ xs ∧ atI xs (-1) = some v := by
  have hl : 0 < xs.length := List.length_pos_iff.mpr h
  have e : ixN xs.length (-1) = some (xs.length - 1) := by
    unfold ixN
    rw [if_neg (by decide)]
    rw [if_pos (by omega)]
    congr 1
    omega
  refine ⟨xs[xs.length - 1], List.getElem_mem (by omega), ?_⟩
  unfold atI
  rw [e]
  show xs[xs.length - 1]? = _
  rw [List.getElem?_eq_getElem (by omega)]
theorem bound_row {n : Int} {wide tall j : Nat} (hj : j < tall) (hn : n + 3 + tall * ((wide : Int) + 1) ≤ 1048576) : n + 3 + (j : Int) * ((wide : Int) + 1) + 1 + wide ≤ 1048576 := by
  have h : ((j : Int) + 1) * ((wide : Int) + 1) ≤ tall * ((wide : Int) + 1) := Int.mul_le_mul_of_nonneg_right (by omega) (by omega)
  have e : ((j : Int) + 1) * ((wide : Int) + 1) = j * ((wide : Int) + 1) + (wide + 1) := by rw [Int.add_mul, Int.one_mul]
  omega
theorem full_row {n : Int} (j wide : Nat) : n + 3 + (j : Int) * ((wide : Int) + 1) + 1 + wide ≤ n + 3 + ((j + 1 : Nat) : Int) * ((wide : Int) + 1) := by
  have e : ((j + 1 : Nat) : Int) * ((wide : Int) + 1) = j * ((wide : Int) + 1) + (wide + 1) := by push_cast; rw [Int.add_mul, Int.one_mul]
  omega
theorem step_row {n : Int} (j wide : Nat) : n + 3 + (j : Int) * ((wide : Int) + 1) + 1 ≤ n + 3 + ((j + 1 : Nat) : Int) * ((wide : Int) + 1) := by
  have := full_row (n := n) j wide
  omega
theorem dlog {z : Int} (h0 : 0 ≤ z) (h1 : z < 10) : z.natAbs.log2 < 1920 := by
  rcases (by omega : z = 0 ∨ z = 1 ∨ z = 2 ∨ z = 3 ∨ z = 4 ∨ z = 5 ∨ z = 6 ∨ z = 7 ∨ z = 8 ∨ z = 9) with rfl | rfl | rfl | rfl | rfl | rfl | rfl | rfl | rfl | rfl <;> decide
def spLines : Sp := fun vs H Q _ => ∃ (p c : Addr) (n : Int) (wide tall : Nat), vs = [.ref p, .int (wide : Int), .int (tall : Int)] ∧ Pen H p c n ∧ 1 ≤ wide ∧ wide ≤ 200 ∧ tall ≤ 200 ∧ n + 3 + tall * (wide + 1) ≤ 1048576 ∧
  ∀ (l : Addr) (ls : List Str) (H' : Hp), H l = none → SameBut p H H' → Pen H' p c (n + 3 + tall * (wide + 1)) → H' l = some (.lst (ls.map V.str)) → ls.length = tall → (∀ s ∈ ls, Row wide s) → Q (.ref l) H'
section
variable {P : Program} {w : World} {K : PySem.W.Frag} {mg : Str → Option Value} {base : Heap} {a : Adr}
set_option maxHeartbeats 4000000
theorem ok_lines (T : Txt K mg a) : FnR P w K mg base CX0 4 a._law_lines spLines := by
  have G__law_draw : FnR P w K mg base CX0 1 a._law_draw spPDraw := ok_pdraw T
  have G__law_pick : FnR P w K mg base CX0 2 a._law_pick spPick := ok_pick T
  refine T.d__law_lines.ok sc__law_lines (fun _ _ _ _ _ _ us hl => match us, hl with | [_, _, _], _ => rfl) (fun vs H Q E h => by obtain ⟨p, c, n, wide, tall, rfl, _⟩ := h; rfl) (fun cdv A outer s H vs Q E hr h => ?_)
  obtain ⟨p, c, n, wide, tall, rfl, hP, hw1, hw2, ht, hn, k⟩ := h
  refine ⟨_, (pss_cons (ps_set (i := 3) sc__law_lines.nd rfl (Or.inr rfl) (pe_slice sl_list (pe_lst (pa_cons pe_str (pa_cons (pe_callTy call_str_int (by rfl) T.n_str (by decide +kernel) (pa_cons (pe_callR G__law_draw (hr.mono (by decide)) T.m__law_draw T.k__law_draw pass0 (pa_cons (pv 0) (pa_cons pe_int pa_nil))) pa_nil)) (pa_cons (pe_callTy call_str_int (by rfl) T.n_str (by decide +kernel) (pa_cons (pe_callR G__law_draw (hr.mono (by decide)) T.m__law_draw T.k__law_draw pass0 (pa_cons (pv 0) (pa_cons pe_int pa_nil))) pa_nil)) pa_nil)))) po_none (po_some (pe_op op_add pe_int (pe_callR G__law_draw (hr.mono (by decide)) T.m__law_draw T.k__law_draw pass0 (pa_cons (pv 0) (pa_cons pe_int pa_nil)))))))
      (pss_cons (ps_set (i := 4) sc__law_lines.nd rfl (Or.inl rfl) (pe_lst pa_nil))
      (pss_cons (ps_for PassesOwn.never rfl (pi_range1 rfl T.n_range (pa_cons (pv 2) pa_nil)) (pg_name (i := 5) sc__law_lines.nd rfl (Or.inl rfl))
          (pss_one (ps_if (PW.pt (pw_and (pt_cmpR (op_neD hr.units) (pv 4) (pe_lst pa_nil) (nomark _)) (pw_and1 (pt_cmpR op_eq (pe_callR G__law_draw (hr.mono (by decide)) T.m__law_draw T.k__law_draw pass0 (pa_cons (pv 0) (pa_cons pe_int pa_nil))) pe_int (nomark _)))))
              (pss_one (ps_expr (pe_bm PySem.F.plainAttrs_list PySem.F.slot_list_append PySem.F.type_list_append mt_append (pv 4) (pa_cons (pe_ix ix_list (pv 4) (pe_un un_neg pe_int) (fun _ _ => rfl)) pa_nil))))
              (pss_one (ps_expr (pe_bm PySem.F.plainAttrs_list PySem.F.slot_list_append PySem.F.type_list_append mt_append (pv 4) (pa_cons (pe_join pe_str (pe_lc (own := [("_law_i", 6)]) (g := gName 6) (by rfl) sc__law_lines.nd (pi_range1 rfl T.n_range (pa_cons (pv 1) pa_nil)) (blkOk_by (own := [("_law_i", 6)]) (N := ["_law_pen_here", "_law_wide", "_law_tall", "_law_some", "_law_found", "_law_j", "_law_i"]) (sc := defScope s__law_lines) (by decide +kernel)) (fun _ _ _ _ _ => (pg_name (i := 6) sc__law_lines.nd rfl (Or.inl rfl))) (fun _ _ _ _ _ => pts_nil) (fun _ _ _ _ _ => (pe_callR G__law_pick (hr.mono (by decide)) T.m__law_pick T.k__law_pick pass0 (pa_cons (pv 0) (pa_cons (pv 3) pa_nil)))))) pa_nil)))))))
      (pss_one (ps_ret (pv 4)))))), ?_⟩
  have tw : 0 ≤ (tall : Int) * ((wide : Int) + 1) := Int.mul_nonneg (by omega) (by omega)
  refine ⟨_, rfl, p, c, 10, n, rfl, hP, by omega, by decide, by decide, fun z1 H1 a0 a1 s1 P1 => ⟨z1, rfl, dlog a0 a1, ?_⟩⟩
  refine ⟨_, rfl, p, c, 10, n + 1, rfl, P1, by omega, by decide, by decide, fun z2 H2 b0 b1 s2 P2 => ⟨z2, rfl, dlog b0 b1, (by show 3 ≤ sizeLine; decide), fun L hL => ?_⟩⟩
  have mL := same_new (o := .lst [.str "0", .str (Str.ofString (toString z1)), .str (Str.ofString (toString z2))]) hL
  have eL : upd H2 L (.lst [.str "0", .str (Str.ofString (toString z1)), .str (Str.ofString (toString z2))]) L = some (.lst [.str "0", .str (Str.ofString (toString z1)), .str (Str.ofString (toString z2))]) := upd_same
  have P3 := P2.same mL
  have nL : L ≠ p := fun e => by
    obtain ⟨ns, b, r, q, _⟩ := P2
    rw [← e, hL] at q
    cases q
  refine ⟨_, rfl, p, c, 3, n + 1 + 1, rfl, P3, by omega, by decide, by decide, fun z3 H3 c0 c1 s3 P4 => ⟨_, _, rfl, rfl, _, rfl, L, _, rfl, SqL.of (s3 _ _ nL eL), fun q hq => ?_⟩⟩
  obtain ⟨ds, hds, hd0, hdig⟩ : ∃ ds : List Str, cutV [V.str "0", .str (Str.ofString (toString z1)), .str (Str.ofString (toString z2))] none (some (1 + z3)) = ds.map V.str ∧ 0 < ds.length ∧ (ds.length ≤ 3 ∧ ∀ d ∈ ds, Dig d) := by
    have d0 : Dig "0" := ⟨0, by decide, by decide +kernel⟩
    have d1 : Dig (Str.ofString (toString z1)) := ⟨z1.toNat, by omega, by rw [Int.toNat_of_nonneg a0]⟩
    have d2 : Dig (Str.ofString (toString z2)) := ⟨z2.toNat, by omega, by rw [Int.toNat_of_nonneg b0]⟩
    rcases (by omega : z3 = 0 ∨ z3 = 1 ∨ z3 = 2) with rfl | rfl | rfl
    · exact ⟨["0"], rfl, by decide, by decide, fun d h => by cases List.mem_singleton.mp h; exact d0⟩
    · exact ⟨["0", Str.ofString (toString z1)], rfl, by show 0 < 2; decide, by show 2 ≤ 3; decide, fun d h => by
        simp only [List.mem_cons, List.not_mem_nil, or_false] at h
        rcases h with rfl | rfl
        · exact d0
        · exact d1⟩
    · exact ⟨["0", Str.ofString (toString z1), Str.ofString (toString z2)], rfl, by show 0 < 3; decide, by show 3 ≤ 3; decide, fun d h => by
        simp only [List.mem_cons, List.not_mem_nil, or_false] at h
        rcases h with rfl | rfl | rfl
        · exact d0
        · exact d1
        · exact d2⟩
  rw [hds]
  have s4 : SameBut p H H3 := s1.trans (s2.trans ((SameBut.of mL).trans s3))
  have mq := same_new (o := .lst (ds.map V.str)) hq
  have eq : upd H3 q (.lst (ds.map V.str)) q = some (.lst (ds.map V.str)) := upd_same
  have s5 := s4.trans (SameBut.of mq)
  have P5 := P4.same mq
  have nq : q ≠ p := fun e => by
    obtain ⟨ns, b, r, y, _⟩ := P4
    rw [← e, hq] at y
    cases y
  clear mL eL P3 s1 s2 s3 s4 P4 P1 P2 mq hq hL hds
  generalize upd H3 q (.lst (ds.map V.str)) = H5 at *
  refine ⟨(by show 0 ≤ sizeLine; decide), fun F hF => ?_⟩
  have mF := same_new (o := .lst []) hF
  have eF : upd H5 F (.lst []) F = some (.lst []) := upd_same
  have nF : F ≠ p := fun e => by
    obtain ⟨ns, b, r, y, _⟩ := P5
    rw [← e, hF] at y
    cases y
  have nFq : F ≠ q := fun e => by
    rw [← e, hF] at eq
    cases eq
  have cF := (Pen.at_p P5 hF).2
  have fF : H F = none := by
    cases e : H F with
    | none => rfl
    | some o =>
      have z := s5 _ _ nF e
      rw [hF] at z
      cases z
  refine ⟨_, rfl, tall, rfl, by omega, by omega, for_range (n := tall) (fun j σ H' => ∃ (ls : List Str) (w5 w6 : Option V), σ = [some (.ref p), some (.int wide), some (.int tall), some (.ref q), some (.ref F), w5, w6] ∧ H' F = some (.lst (ls.map V.str)) ∧ ls.length = j ∧ (∀ s ∈ ls, Row wide s) ∧
    Pen H' p c (n + 3 + (j : Int) * ((wide : Int) + 1)) ∧ (∀ b o, b ≠ p → b ≠ F → H5 b = some o → H' b = some o)) ?_ ?_ ?_⟩
  · exact ⟨[], _, _, rfl, eF, rfl, (fun s h => by cases h), (P5.same mF).le (by simp; omega), fun b o _ nb e => by rw [upd_ne nb]; exact e⟩
  · rintro j σ H6 hj ⟨ls, w5, w6, rfl, eF6, hl, hrow, P6, k6⟩
    refine ⟨_, rfl, (by show 0 ≤ sizeLine; decide), fun r hr => ?_⟩
    have mr := same_new (o := .lst []) hr
    refine ⟨.list (ls.map .str), .list [], .lst (SqL.of (mr _ _ eF6)) (dp_strs ls), .lst (SqL.of upd_same) .nil, shaped_strs (fun s q => by obtain ⟨_, _, _, _, z⟩ := hrow s q; exact z), rfl, _, rfl, ?_⟩
    rw [eqv_strs]
    have P7 := P6.same mr
    have eF7 := mr _ _ eF6
    have k7 : ∀ b o, b ≠ p → b ≠ F → H5 b = some o → upd H6 r (.lst []) b = some o := fun b o x y e => mr _ _ (k6 b o x y e)
    clear k6 P6 eF6 mr hr
    generalize upd H6 r (.lst []) = H7 at *
    refine ite2 (fun hc => ?_) fun hc => ?_
    · refine ⟨_, rfl, p, c, 4, _, rfl, P7, by have := bound_row hj hn; omega, by decide, by decide, fun z HA a0 a1 sA PA => ⟨rfl, _, rfl, ite2 (fun hz => ?_) fun hz => ?_⟩⟩
      · have eFA := sA F _ nF eF7
        have hne : ls.map V.str ≠ [] := fun e => by
          rw [List.map_eq_nil_iff.mp e, decide_eq_true rfl] at hc
          cases hc
        obtain ⟨v, hv, hat⟩ := atI_last hne
        obtain ⟨t, ht', rfl⟩ := List.mem_map.mp hv
        refine ⟨_, rfl, .inl ⟨rfl, _, SqL.of eFA⟩, _, rfl, 1, rfl, F, _, _, _, rfl, rfl, SqL.of eFA, hat, F, _, _, rfl, rfl, eFA, by rw [List.length_map, hl]; exact Nat.lt_of_lt_of_le (show j < 200 by omega) (by decide +kernel), ?_⟩
        refine ⟨ls ++ [t], _, _, rfl, by rw [upd_same, List.map_append]; rfl, by rw [List.length_append, hl]; rfl, fun x q => ?_, (Pen.put PA nF cF).le (step_row j wide), fun b o nb nd e => by rw [upd_ne nd]; exact sA b o nb (k7 b o nb nd e)⟩
        rcases List.mem_append.mp q with q | q
        · exact hrow x q
        · cases List.mem_singleton.mp q; exact hrow _ ht'
      · have eFA := sA F _ nF eF7
        have kA : ∀ b o, b ≠ p → b ≠ F → H5 b = some o → HA b = some o := fun b o x y e => sA b o x (k7 b o x y e)
        have hB : n + 3 + (j : Int) * ((wide : Int) + 1) + 1 + wide ≤ 1048576 := bound_row hj hn
        refine ⟨_, rfl, .inl ⟨rfl, _, SqL.of eFA⟩, ⟨_, rfl⟩, _, rfl, wide, rfl, by omega, by omega, fun D hD => lc_range (n := wide) (fun i H' => ∃ es : List Str, es.length = i ∧ (∀ d ∈ es, Dig d) ∧ H' D = some (.lst (es.map V.str)) ∧ Pen H' p c (n + 3 + (j : Int) * ((wide : Int) + 1) + 1 + i) ∧ ∀ b o, b ≠ p → b ≠ D → HA b = some o → H' b = some o) ?_ ?_ ?_⟩
        · exact ⟨[], rfl, (fun d h => by cases h), upd_same, (Pen.same PA (same_new hD)).le (by simp), fun b o _ nb e => by rw [upd_ne nb]; exact e⟩
        · rintro i HI hi ⟨es, hes, hdg, eD, PI, kI⟩
          have nD : D ≠ p := fun e => by
            obtain ⟨_, _, _, y, _⟩ := PA
            rw [← e, hD] at y
            cases y
          have eqI : HI q = some (.lst (ds.map V.str)) := kI q _ nq (ne_of_none (kA q _ nq (Ne.symm nFq) eq) hD) (kA q _ nq (Ne.symm nFq) eq)
          refine ⟨rfl, _, rfl, _, rfl, p, c, q, _, ds.map V.str, rfl, PI, by omega, eqI, nq, by rw [List.length_map]; exact hd0, by rw [List.length_map]; omega, fun v H2 hv s2 P2 => ?_⟩
          obtain ⟨t, ht', rfl⟩ := List.mem_map.mp hv
          refine ⟨es.map V.str, s2 D _ nD eD, by rw [List.length_map, hes]; exact Nat.lt_of_lt_of_le (show i < 200 by omega) (by decide +kernel), es ++ [t], by rw [List.length_append, hes]; rfl, fun d h => ?_, by rw [upd_same, List.map_append]; rfl, ?_, fun b o nb nd e => ?_⟩
          · rcases List.mem_append.mp h with h | h
            · exact hdg d h
            · cases List.mem_singleton.mp h; exact hdig.2 _ ht'
          · exact (Pen.put P2 nD (Pen.at_p PA hD).2).le (by push_cast; omega)
          · rw [upd_ne nd]
            exact s2 b o nb (kI b o nb nd e)
        · rintro HI ⟨es, hes, hdg, eD, PI, kI⟩
          have nFD : F ≠ D := ne_of_none eFA hD
          have eFI := kI F _ nF nFD eFA
          refine ⟨"", D, es, rfl, rfl, .inl (SqL.of eD), by rw [digs_sum hdg, hes]; exact (show wide + wide * 0 ≤ 16777216 by omega), F, _, _, rfl, rfl, eFI, by rw [List.length_map, hl]; exact Nat.lt_of_lt_of_le (show j < 200 by omega) (by decide +kernel), ?_⟩
          refine ⟨ls ++ [Txt.join "" es], _, _, rfl, by rw [upd_same, List.map_append]; rfl, by rw [List.length_append, hl]; rfl, fun x q => ?_, (Pen.put PI nF cF).le (full_row j wide), fun b o nb nd e => by
            rw [upd_ne nd]
            have z := kA b o nb nd e
            exact kI b o nb (ne_of_none z hD) z⟩
          rcases List.mem_append.mp q with q | q
          · exact hrow x q
          · cases List.mem_singleton.mp q
            exact ⟨es, hes, hdg, rfl, join_ok fun d y => (dig_ok (hdg d y)).1⟩
    · refine iteF ?_
      have P8 := P7.le (show n + 3 + (j : Int) * ((wide : Int) + 1) ≤ n + 3 + (j : Int) * ((wide : Int) + 1) + 1 by omega)
      have hB : n + 3 + (j : Int) * ((wide : Int) + 1) + 1 + wide ≤ 1048576 := bound_row hj hn
      refine ⟨_, rfl, .inl ⟨rfl, _, SqL.of eF7⟩, ⟨_, rfl⟩, _, rfl, wide, rfl, by omega, by omega, fun D hD => lc_range (n := wide) (fun i H' => ∃ es : List Str, es.length = i ∧ (∀ d ∈ es, Dig d) ∧ H' D = some (.lst (es.map V.str)) ∧ Pen H' p c (n + 3 + (j : Int) * ((wide : Int) + 1) + 1 + i) ∧ ∀ b o, b ≠ p → b ≠ D → H7 b = some o → H' b = some o) ?_ ?_ ?_⟩
      · exact ⟨[], rfl, (fun d h => by cases h), upd_same, (Pen.same P8 (same_new hD)).le (by simp), fun b o _ nb e => by rw [upd_ne nb]; exact e⟩
      · rintro i HI hi ⟨es, hes, hdg, eD, PI, kI⟩
        have nD : D ≠ p := fun e => by
          obtain ⟨_, _, _, y, _⟩ := P8
          rw [← e, hD] at y
          cases y
        have eqI : HI q = some (.lst (ds.map V.str)) := kI q _ nq (ne_of_none (k7 q _ nq (Ne.symm nFq) eq) hD) (k7 q _ nq (Ne.symm nFq) eq)
        refine ⟨rfl, _, rfl, _, rfl, p, c, q, _, ds.map V.str, rfl, PI, by omega, eqI, nq, by rw [List.length_map]; exact hd0, by rw [List.length_map]; omega, fun v H2 hv s2 P2 => ?_⟩
        obtain ⟨t, ht', rfl⟩ := List.mem_map.mp hv
        refine ⟨es.map V.str, s2 D _ nD eD, by rw [List.length_map, hes]; exact Nat.lt_of_lt_of_le (show i < 200 by omega) (by decide +kernel), es ++ [t], by rw [List.length_append, hes]; rfl, fun d h => ?_, by rw [upd_same, List.map_append]; rfl, ?_, fun b o nb nd e => ?_⟩
        · rcases List.mem_append.mp h with h | h
          · exact hdg d h
          · cases List.mem_singleton.mp h; exact hdig.2 _ ht'
        · exact (Pen.put P2 nD (Pen.at_p P8 hD).2).le (by push_cast; omega)
        · rw [upd_ne nd]
          exact s2 b o nb (kI b o nb nd e)
      · rintro HI ⟨es, hes, hdg, eD, PI, kI⟩
        have nFD : F ≠ D := ne_of_none eF7 hD
        have eFI := kI F _ nF nFD eF7
        refine ⟨"", D, es, rfl, rfl, .inl (SqL.of eD), by rw [digs_sum hdg, hes]; exact (show wide + wide * 0 ≤ 16777216 by omega), F, _, _, rfl, rfl, eFI, by rw [List.length_map, hl]; exact Nat.lt_of_lt_of_le (show j < 200 by omega) (by decide +kernel), ?_⟩
        refine ⟨ls ++ [Txt.join "" es], _, _, rfl, by rw [upd_same, List.map_append]; rfl, by rw [List.length_append, hl]; rfl, fun x q => ?_, (Pen.put PI nF cF).le (full_row j wide), fun b o nb nd e => by
          rw [upd_ne nd]
          have z := k7 b o nb nd e
          exact kI b o nb (ne_of_none z hD) z⟩
        rcases List.mem_append.mp q with q | q
        · exact hrow x q
        · cases List.mem_singleton.mp q
          exact ⟨es, hes, hdg, rfl, join_ok fun d y => (dig_ok (hdg d y)).1⟩
  · rintro σ H6 ⟨ls, w5, w6, rfl, eF6, hl, hrow, P6, k6⟩
    refine ⟨_, rfl, ?_⟩
    refine k F ls H6 fF (fun b o nb e => ?_) P6 eF6 hl hrow
    have e5 := s5 b o nb e
    exact k6 b o nb (ne_of_none e5 hF) e5
end
end Pf
end
section
namespace Pf
open PySem PySem.Spec PyProof.Rows L2 Ow StX
open SX (S)
theorem Pen.ne_new {H : Hp} {p c l : Addr} {n : Int} (x : Pen H p c n) (nl : H l = none) : l ≠ p := fun e => by
  obtain ⟨ns, b, r, h1, _⟩ := x
  rw [e, h1] at nl
  cases nl
theorem mul_any (d : Nat) {n : Int} (h : 0 ≤ n) : Txt.mul (S [d]) n = S (List.replicate n.toNat d) := by
  by_cases e : n = 0
  · subst e
    unfold Txt.mul
    rw [if_pos (by decide)]
    rfl
  · exact mul_one d (by omega)
theorem mulOk_any (d : Nat) {n : Int} (h : 0 ≤ n) (h2 : n ≤ 100000) : MulOk (S [d]) n := by
  by_cases e : n = 0
  · subst e
    exact ⟨by decide, fun z => absurd (by decide) z, fun z => absurd (by decide) z⟩
  · exact mulOk_one d (by omega) h2
theorem cutV_from {xs : List V} {n : Nat} : cutV xs (some (n : Int)) none = xs.drop n := by
  unfold cutV
  rw [HT.sIx_nat, HT.sIx_none]
  by_cases h : n ≤ xs.length
  · rw [Nat.min_eq_left h]
    exact List.take_of_length_le (by rw [List.length_drop]; exact Nat.le_refl _)
  · rw [Nat.min_eq_right (by omega), List.drop_of_length_le (Nat.le_refl _), List.drop_of_length_le (by omega), List.take_nil]
theorem cut_fromA {a : List Nat} {i : Nat} : cutS (S a) (some (i : Int)) none = S (a.drop i) := by
  by_cases h : i ≤ a.length
  · exact cut_from h
  · unfold cutS
    rw [HT.sIx_nat, HT.sIx_none, SX.S_len, Nat.min_eq_right (by omega), List.drop_of_length_le (show a.length ≤ i by omega)]
    exact congrArg S (by rw [show (S a).cps.toList = a from rfl, List.drop_of_length_le (Nat.le_refl _), List.take_nil])
theorem cutV_rows_to {rs : List (List Nat)} {n : Nat} : cutV (rowsV rs) none (some (n : Int)) = rowsV (rs.take n) := by rw [cutV_to, ← List.map_take]
theorem cutV_rows_from {rs : List (List Nat)} {n : Nat} : cutV (rowsV rs) (some (n : Int)) none = rowsV (rs.drop n) := by rw [cutV_from, ← List.map_drop]
/-- what lines take, a sign for each end -/
def tot : List (List Nat) → Nat
  | [] => 0
  | p :: t => p.length + 1 + tot t
theorem tot_app : ∀ a b : List (List Nat), tot (a ++ b) = tot a + tot b
  | [], b => by simp [tot]
  | p :: t, b => by
    show p.length + 1 + tot (t ++ b) = p.length + 1 + tot t + tot b
    rw [tot_app t b]
    omega
theorem tot_join : ∀ {ls : List (List Nat)}, ls ≠ [] → (TL.joinL [10] ls).length + 1 = tot ls
  | [], h => absurd rfl h
  | [p], _ => rfl
  | p :: q :: r, _ => by
    have := tot_join (ls := q :: r) (by simp)
    show (p ++ ([10] ++ TL.joinL [10] (q :: r))).length + 1 = p.length + 1 + tot (q :: r)
    rw [List.length_append, List.length_append, List.length_singleton]
    omega
theorem join_tot (ls : List (List Nat)) : (TL.joinL [10] ls).length ≤ tot ls := by
  cases ls with
  | nil => exact Nat.zero_le _
  | cons p t =>
    have := tot_join (ls := p :: t) (by simp)
    omega
theorem join_low : ∀ {ls : List (List Nat)}, (∀ p ∈ ls, LowL p) → LowL (TL.joinL [10] ls)
  | [], _ => fun c hc => by cases hc
  | [p], h => h p List.mem_cons_self
  | p :: q :: r, h => fun c hc => by
    have hc : c ∈ p ++ ([10] ++ TL.joinL [10] (q :: r)) := hc
    rcases List.mem_append.mp hc with hc | hc
    · exact h p List.mem_cons_self c hc
    · rcases List.mem_append.mp hc with hc | hc
      · rw [List.mem_singleton.mp hc]
        decide
      · exact join_low (fun z hz => h z (List.mem_cons_of_mem _ hz)) c hc
theorem tot_split (ls : List (List Nat)) (k : Nat) : tot (ls.take k) + tot (ls.drop k) = tot ls := by
  rw [← tot_app, List.take_append_drop]
theorem tot_sum (ls : List (List Nat)) : ((ls.map S).map (·.length)).sum + (ls.map S).length * (Str.ofString "\n").length = tot ls := by
  have h3 : (Str.ofString "\n").length = 1 := by decide +kernel
  rw [h3, List.length_map, Nat.mul_one]
  induction ls with
  | nil => rfl
  | cons p t ih =>
    rw [List.map_cons, List.map_cons, List.sum_cons, SX.S_len, List.length_cons]
    show _ = p.length + 1 + tot t
    omega
theorem lns_tot (r : List Nat) : tot (lns r) = r.length + 1 := by
  have h := tot_join (ls := lns r) (fun e => by
    have := lns_pos (r := r)
    rw [e] at this
    exact absurd this (by decide))
  rw [join_lns] at h
  exact h.symm
theorem join_go {K : PySem.W.Frag} {H : Hp} {x : Addr} {ls : List (List Nat)} {Q : VK} (hx : H x = some (.lst (rowsV ls))) (hs : tot ls ≤ 16777216) (k : Q (.str (S (TL.joinL [10] ls))) H) : ∃ p, V.ref x = V.ref p ∧ ∃ ys : List Str, (SqL K H p (ys.map V.str) ∨ SqT K H p (ys.map V.str)) ∧ (ys.map (·.length)).sum + ys.length * (Str.ofString "\n").length ≤ 16777216 ∧ Q (.str (Txt.join (Str.ofString "\n") ys)) H := by
  refine ⟨x, rfl, ls.map S, .inl (SqL.of (by rw [List.map_map]; exact hx)), by rw [tot_sum]; exact hs, ?_⟩
  rw [nlS, SX.join_S]
  exact k
theorem low_of {s : Str} {q : List Nat} (h : s = S q) (l : q.all (· < 128) = true) (n : q.length ≤ 2) : ∃ q, V.str s = .str (S q) ∧ LowL q ∧ q.length ≤ 2 := ⟨q, by rw [h], fun c hc => by have := List.all_eq_true.mp l c hc; simpa using this, n⟩
theorem LowL.app {a b : List Nat} (x : LowL a) (y : LowL b) : LowL (a ++ b) := fun c hc => (List.mem_append.mp hc).elim (x c) (y c)
theorem LowL.take {a : List Nat} {n : Nat} (x : LowL a) : LowL (a.take n) := fun c hc => x c (List.mem_of_mem_take hc)
theorem LowL.drop {a : List Nat} {n : Nat} (x : LowL a) : LowL (a.drop n) := fun c hc => x c (List.mem_of_mem_drop hc)
def spBent : Sp := fun vs H Q _ => ∃ (p c : Addr) (n : Int) (r : List Nat), vs = [.ref p, .str (S r)] ∧ Pen H p c n ∧ n < 900000 ∧ LowL r ∧ r.length ≤ 4000 ∧ ∀ (r' : List Nat) (H' : Hp), LowL r' → r'.length ≤ 2 * r.length + 210 → SameBut p H H' → Pen H' p c (n + 5) → Q (.str (S r')) H'
section
variable {P : Program} {w : World} {K : PySem.W.Frag} {mg : Str → Option Value} {base : Heap} {a : Adr}
set_option maxHeartbeats 4000000
theorem ok_bent (T : Txt K mg a) : FnR P w K mg base CX0 3 a._law_bent spBent := by
  have G__law_draw : FnR P w K mg base CX0 1 a._law_draw spPDraw := ok_pdraw T
  have G__law_pick : FnR P w K mg base CX0 2 a._law_pick spPick := ok_pick T
  refine T.d__law_bent.ok sc__law_bent (fun _ _ _ _ _ _ us hl => match us, hl with | [_, _], _ => rfl) (fun vs H Q E h => by obtain ⟨p, c, n, r, rfl, _⟩ := h; rfl) (fun cdv A outer s H vs Q E hr h => ?_)
  obtain ⟨p, c, n, r, rfl, hP, hn, lr, hr', k⟩ := h
  refine ⟨_, (pss_cons (ps_par (i := 2) (j := 3) (by rfl) sc__law_bent.nd rfl rfl (by decide) rfl rfl (pa_cons (pe_split (pv 1) pe_str) (pa_cons (pe_callR G__law_draw (hr.mono (by decide)) T.m__law_draw T.k__law_draw pass0 (pa_cons (pv 0) (pa_cons pe_int pa_nil))) pa_nil)) (by rfl))
      (pss_cons (ps_par (i := 4) (j := 5) (by rfl) sc__law_bent.nd rfl rfl (by decide) rfl rfl (pa_cons (pe_callR G__law_draw (hr.mono (by decide)) T.m__law_draw T.k__law_draw pass0 (pa_cons (pv 0) (pa_cons (pe_callB call_len_seq (by rfl) T.n_len (by decide +kernel) (pa_cons (pv 2) pa_nil)) pa_nil))) (pa_cons (pe_callR G__law_draw (hr.mono (by decide)) T.m__law_draw T.k__law_draw pass0 (pa_cons (pv 0) (pa_cons (pe_op op_add (pe_callB call_len_str (by rfl) T.n_len (by decide +kernel) (pa_cons (pv 1) pa_nil)) pe_int) pa_nil))) pa_nil)) (by rfl))
      (pss_cons (ps_if (pt_cmpR op_eq (pv 3) pe_int (nomark _))
          (pss_one (ps_ret (pe_join pe_str (pe_op op_cat (pe_slice sl_list (pv 2) po_none (po_some (pv 4))) (pe_slice sl_list (pv 2) (po_some (pe_op op_add (pv 4) pe_int)) po_none)))))
          pss_nil)
      (pss_cons (ps_if (pt_cmpR op_eq (pv 3) pe_int (nomark _))
          (pss_one (ps_ret (pe_join pe_str (pe_op op_cat (pe_slice sl_list (pv 2) po_none (po_some (pe_op op_add (pv 4) pe_int))) (pe_slice sl_list (pv 2) (po_some (pv 4)) po_none)))))
          pss_nil)
      (pss_cons (ps_set (i := 6) sc__law_bent.nd rfl (Or.inl rfl) (pe_callR G__law_pick (hr.mono (by decide)) T.m__law_pick T.k__law_pick pass0 (pa_cons (pv 0) (pa_cons (pe_lst (pa_cons pe_str (pa_cons pe_str (pa_cons pe_str (pa_cons pe_str (pa_cons pe_str (pa_cons pe_str (pa_cons pe_str (pa_cons pe_str (pa_cons pe_str (pa_cons pe_str pa_nil))))))))))) pa_nil))))
      (pss_cons (ps_if (pt_cmpR op_eq (pv 3) pe_int (nomark _))
          (pss_one (ps_ret (pe_op op_add_str (pe_op op_add_str (pe_slice sl_str (pv 1) po_none (po_some (pv 5))) (pv 6)) (pe_slice sl_str (pv 1) (po_some (pv 5)) po_none))))
          pss_nil)
      (pss_cons (ps_if (pt_cmpR op_eq (pv 3) pe_int (nomark _))
          (pss_one (ps_ret (pe_op op_add_str (pe_slice sl_str (pv 1) po_none (po_some (pv 5))) (pe_slice sl_str (pv 1) (po_some (pe_op op_add (pv 5) pe_int)) po_none))))
          pss_nil)
      (pss_cons (ps_if (pt_cmpR op_eq (pv 3) pe_int (nomark _))
          (pss_one (ps_ret (pe_op op_add_str (pe_op op_add_str (pe_slice sl_str (pv 1) po_none (po_some (pv 5))) (pv 6)) (pe_slice sl_str (pv 1) (po_some (pe_op op_add (pv 5) pe_int)) po_none))))
          pss_nil)
      (pss_one (ps_ret (pe_callR G__law_pick (hr.mono (by decide)) T.m__law_pick T.k__law_pick pass0 (pa_cons (pv 0) (pa_cons (pe_lst (pa_cons (pe_op op_add_str (pv 1) pe_str) (pa_cons (pe_op op_add_str pe_str (pv 1)) (pa_cons (pe_op op_add_str pe_str (pv 1)) (pa_cons (pe_op op_add_str (pv 1) pe_str) (pa_cons pe_str (pa_cons (pe_op op_add_str (pe_op op_add_str (pv 1) pe_str) (pe_op op_mulS pe_str (pe_callB call_len_str (by rfl) T.n_len (by decide +kernel) (pa_cons (pe_ix ix_list (pv 2) pe_int (fun _ _ => rfl)) pa_nil)))) pa_nil))))))) pa_nil))))))))))))), ?_⟩
  simp only [tSeq, tIfS, tTest, tB, tAnd, tOr, tNot, tAndV, tOrV, tNotV, tIf, tOp, tUn, tChain, rEq, rNe, rI0, rI, rU, tCallR, tCons, tNil, tC, tVar, tRet, tRetN, tTup_k, tLst_k, tCB, tNext, tAsg, gName, gTup, gCons, gNil, tDrop, tPar, tFld, ClX.tCVal, tPropR, rBin, rBinT, rNeOwn, rSetL_k, gSub, tMakeK_k, tMethR, rInO, tDNewK_k, tYes, wipe, tMakeR_k, tSMeth, tSMethK, rMulS, decide_true, tNever, sFld, rIsiT, and_false, rListOf, rTupOf, rLenSeq, rIxL, rIxT, rIxS, rCat_k, rRep_k, rSlL_k, rSlS, rNewStrs_k, rAppend_k, tBM, tBM0, tM0, tM1, tSl, tNoPart, tPart, tLc_k, tFor_k, iList, iTup, iEnumT, iRng1, iRng2, iRng2L, iStr, L2.start, List.map, List.length_cons, List.length_nil, List.cons_append, List.nil_append, List.getElem?_cons_succ, List.getElem?_cons_zero, Option.some.injEq, V.int.injEq, V.bl.injEq, V.str.injEq, V.ref.injEq, exists_eq_left', exists_eq_left, and_assoc, exists_and_left, exists_eq, exists_eq', true_and, and_true, List.set_cons_zero, List.set_cons_succ, List.set, decide_eq_true_eq, Bool.not_eq_true', if_true, if_false, rIx, cx_K, nox_K, List.replicate_succ, List.replicate_zero, Nat.reduceSub, Bool.true_eq_false, Bool.false_eq_true, Nat.reduceAdd, List.cons.injEq, reduceCtorEq, false_and, false_or, or_false, tAug, rSetO, rJoin, rNewStrs_k, tMakeL, rStrO, ClX.tCMeth]
  refine ⟨by decide +kernel, by rw [SX.S_len]; exact Nat.le_trans (show _ ≤ 20000 by omega) (by decide), ?_⟩
  rw [split_lns]
  refine kN.mk fun ll H1 f1 => ?_
  have l1 : H1 ll = some (.lst (rowsV (lns r))) := by rw [f1.at_, List.map_map]; rfl
  have lp := lns_pos (r := r)
  have ln := lns_len (r := r)
  have lt := lns_tot r
  have low := lns_low lr
  have sz : ∀ m : Nat, m ≤ 20000 → m ≤ sizeLine := fun m h => Nat.le_trans h (by decide +kernel)
  have P1 := hP.same f1.same
  have nlp : ll ≠ p := hP.ne_new f1.new
  refine ⟨p, c, 6, n, rfl, P1, by omega, by decide, by decide, fun z0 H2 a0 a1 s2 P2 => ?_⟩
  have l2 := s2 _ _ nlp l1
  refine ⟨ll, rfl, _, .inl (SqL.of l2), ?_⟩
  rw [rowsV_len]
  refine ⟨p, c, _, _, rfl, P2, by omega, by omega, by omega, fun z1 H3 b0 b1 s3 P3 => ?_⟩
  have l3 := s3 _ _ nlp l2
  refine ⟨sz _ (by rw [SX.S_len]; omega), ?_⟩
  rw [SX.S_len]
  refine ⟨p, c, _, _, rfl, P3, by omega, by omega, by omega, fun z2 H4 c0 c1 s4 P4 => ?_⟩
  have l4 := s4 _ _ nlp l3
  have s04 := (((SameBut.of f1.same).trans s2).trans s3).trans s4
  obtain ⟨i, rfl⟩ := Int.eq_ofNat_of_zero_le b0
  obtain ⟨j, rfl⟩ := Int.eq_ofNat_of_zero_le c0
  refine ⟨rfl, ?_⟩
  clear hP f1 P1 P2 P3 s2 s3 s4 l1 l2 l3
  by_cases h0 : z0 = 0
  · rw [if_pos (by rw [h0])]
    refine ⟨_, rfl, ll, rfl, _, SqL.of l4, kN.mk fun x H5 f5 => ⟨_, rfl, ll, rfl, _, SqL.of (f5.get l4), kN.mk fun y H6 f6 => ⟨x, rfl, y, rfl, _, f6.get f5.at_, _, f6.at_, ?_, kN.mk fun q H7 f7 => ?_⟩⟩⟩
    · rw [cutV_rows_to, show ((i : Int) + 1) = ((i + 1 : Nat) : Int) from by omega, cutV_rows_from, rowsV_len, rowsV_len]
      exact sz _ (by rw [List.length_take, List.length_drop]; omega)
    · have q7 := f7.at_
      rw [cutV_rows_to, show ((i : Int) + 1) = ((i + 1 : Nat) : Int) from by omega, cutV_rows_from, ← List.map_append] at q7
      have e1 := tot_split (lns r) i
      have e2 := tot_split (lns r) (i + 1)
      have e3 := tot_app ((lns r).take i) ((lns r).drop (i + 1))
      have e4 := join_tot ((lns r).take i ++ (lns r).drop (i + 1))
      refine join_go q7 (by omega) (k _ _ (join_low fun z hz => ?_) (by omega) (s04.trans (SameBut.of ((f5.same.trans f6.same).trans f7.same))) (((P4.same f5.same).same f6.same).same f7.same |>.le (by omega)))
      rcases List.mem_append.mp hz with hz | hz
      · exact low z (List.mem_of_mem_take hz)
      · exact low z (List.mem_of_mem_drop hz)
  rw [if_neg (fun e => h0 (by cases e; rfl))]
  refine ⟨rfl, ?_⟩
  by_cases h1 : z0 = 1
  · rw [if_pos (by rw [h1])]
    refine ⟨_, rfl, ll, rfl, _, SqL.of l4, kN.mk fun x H5 f5 => ⟨_, rfl, ll, rfl, _, SqL.of (f5.get l4), kN.mk fun y H6 f6 => ⟨x, rfl, y, rfl, _, f6.get f5.at_, _, f6.at_, ?_, kN.mk fun q H7 f7 => ?_⟩⟩⟩
    · rw [show ((i : Int) + 1) = ((i + 1 : Nat) : Int) from by omega, cutV_rows_to, cutV_rows_from, rowsV_len, rowsV_len]
      exact sz _ (by rw [List.length_take, List.length_drop]; omega)
    · have q7 := f7.at_
      rw [show ((i : Int) + 1) = ((i + 1 : Nat) : Int) from by omega, cutV_rows_to, cutV_rows_from, ← List.map_append] at q7
      have e1 := tot_split (lns r) i
      have e2 := tot_split (lns r) (i + 1)
      have e3 := tot_app ((lns r).take (i + 1)) ((lns r).drop i)
      have e4 := join_tot ((lns r).take (i + 1) ++ (lns r).drop i)
      refine join_go q7 (by omega) (k _ _ (join_low fun z hz => ?_) (by omega) (s04.trans (SameBut.of ((f5.same.trans f6.same).trans f7.same))) (((P4.same f5.same).same f6.same).same f7.same |>.le (by omega)))
      rcases List.mem_append.mp hz with hz | hz
      · exact low z (List.mem_of_mem_take hz)
      · exact low z (List.mem_of_mem_drop hz)
  rw [if_neg (fun e => h1 (by cases e; rfl))]
  refine kNew.mk (by show 10 ≤ sizeLine; decide) fun tl H5 f5 => ?_
  have P5 := P4.same f5.same
  refine ⟨p, c, tl, _, _, rfl, P5, by omega, f5.at_, P4.ne_new f5.new, by show 0 < 10; decide, by show 10 < 1073741824; decide, fun v H6 hv s6 P6 => ?_⟩
  have l6 := s6 _ _ nlp (f5.get l4)
  have s06 := (s04.trans (SameBut.of f5.same)).trans s6
  obtain ⟨g, rfl, lg, ng⟩ : ∃ q, v = .str (S q) ∧ LowL q ∧ q.length ≤ 2 := by
    simp only [List.mem_cons, List.not_mem_nil, or_false] at hv
    rcases hv with rfl | rfl | rfl | rfl | rfl | rfl | rfl | rfl | rfl | rfl
    · exact low_of (q := [48]) (by decide +kernel) (by decide) (by decide)
    · exact low_of (q := [55]) (by decide +kernel) (by decide) (by decide)
    · exact low_of (q := [10]) (by decide +kernel) (by decide) (by decide)
    · exact low_of (q := [32]) (by decide +kernel) (by decide) (by decide)
    · exact low_of (q := [97]) (by decide +kernel) (by decide) (by decide)
    · exact low_of (q := [45]) (by decide +kernel) (by decide) (by decide)
    · exact low_of (q := [46]) (by decide +kernel) (by decide) (by decide)
    · exact low_of (q := [10, 10]) (by decide +kernel) (by decide) (by decide)
    · exact low_of (q := []) (by decide +kernel) (by decide) (by decide)
    · exact low_of (q := [43]) (by decide +kernel) (by decide) (by decide)
  have ct : cutS (S r) none (some (j : Int)) = S (r.take j) := cut_to (by omega)
  have cf : cutS (S r) (some (j : Int)) none = S (r.drop j) := cut_fromA
  have cf1 : cutS (S r) (some ((j : Int) + 1)) none = S (r.drop (j + 1)) := by rw [show ((j : Int) + 1) = ((j + 1 : Nat) : Int) from by omega, cut_fromA]
  have t1 : (r.take j).length ≤ r.length := by rw [List.length_take]; omega
  have t2 : (r.drop j).length ≤ r.length := by rw [List.length_drop]; omega
  have t3 : (r.drop (j + 1)).length ≤ r.length := by rw [List.length_drop]; omega
  clear f5 s6 P5 P4 l4 s04
  simp only []
  refine ⟨rfl, ?_⟩
  by_cases h2 : z0 = 2
  · rw [if_pos (by rw [h2])]
    refine ⟨_, rfl, sz _ (by omega), _, rfl, by rw [ct, SX.S_len, SX.S_len]; exact sz _ (by omega), _, rfl, sz _ (by omega), ?_⟩
    rw [ct, cf, SX.S_cat, SX.S_cat, SX.S_len, SX.S_len, List.length_append]
    exact ⟨sz _ (by omega), k _ _ ((lr.take.app lg).app lr.drop) (by rw [List.length_append, List.length_append]; omega) s06 (P6.le (by omega))⟩
  rw [if_neg (fun e => h2 (by cases e; rfl))]
  refine ⟨rfl, ?_⟩
  by_cases h3 : z0 = 3
  · rw [if_pos (by rw [h3])]
    refine ⟨_, rfl, sz _ (by omega), _, rfl, sz _ (by omega), ?_⟩
    rw [ct, cf1, SX.S_cat, SX.S_len, SX.S_len]
    exact ⟨sz _ (by omega), k _ _ (lr.take.app lr.drop) (by rw [List.length_append]; omega) s06 (P6.le (by omega))⟩
  rw [if_neg (fun e => h3 (by cases e; rfl))]
  refine ⟨rfl, ?_⟩
  by_cases h4 : z0 = 4
  · rw [if_pos (by rw [h4])]
    refine ⟨_, rfl, sz _ (by omega), _, rfl, by rw [ct, SX.S_len, SX.S_len]; exact sz _ (by omega), _, rfl, sz _ (by omega), ?_⟩
    rw [ct, cf1, SX.S_cat, SX.S_cat, SX.S_len, SX.S_len, List.length_append]
    exact ⟨sz _ (by omega), k _ _ ((lr.take.app lg).app lr.drop) (by rw [List.length_append, List.length_append]; omega) s06 (P6.le (by omega))⟩
  rw [if_neg (fun e => h4 (by cases e; rfl))]
  obtain ⟨r0, hr0⟩ : ∃ r0, (lns r)[0]? = some r0 := ⟨_, List.getElem?_eq_getElem (by omega)⟩
  have at0 : atI (rowsV (lns r)) 0 = some (.str (S r0)) := atI_nat (j := 0) (by rw [List.getElem?_map, hr0]; rfl)
  have n0 := lns_short (List.mem_of_getElem? hr0)
  have e10 : Str.ofString "\n" = S [10] := nlS
  have e32 : Str.ofString " " = S [32] := by decide +kernel
  have e48 : Str.ofString "0" = S [48] := by decide +kernel
  rw [e10, e32, e48]
  simp only [SX.S_cat, SX.S_len]
  refine ⟨sz _ ?_, sz _ ?_, sz _ ?_, sz _ ?_, sz _ ?_, ll, rfl, _, SqL.of l6, _, at0, _, rfl, ?_⟩
  · simp; omega
  · simp; omega
  · simp; omega
  · simp; omega
  · simp; omega
  · rw [SX.S_len, mul_any _ (by omega), Int.toNat_natCast]
    refine ⟨sz _ (by omega), mulOk_any _ (by omega) (by omega), ?_⟩
    rw [SX.S_cat, SX.S_len]
    refine ⟨sz _ (by simp; omega), kNew.mk (by show 6 ≤ sizeLine; decide) fun tq H7 f7 => ?_⟩
    have P7 := P6.same f7.same
    refine ⟨p, c, tq, _, _, rfl, P7, by omega, f7.at_, P6.ne_new f7.new, by show 0 < 6; decide, by show 6 < 1073741824; decide, fun v H8 hv s8 P8 => ?_⟩
    obtain ⟨g, rfl, lg, ng⟩ : ∃ q, v = .str (S q) ∧ LowL q ∧ q.length ≤ 2 * r.length + 210 := by
      have q10 : LowL [10] := fun c hc => by rw [List.mem_singleton.mp hc]; decide
      have q32 : LowL [32] := fun c hc => by rw [List.mem_singleton.mp hc]; decide
      have q48 : ∀ m, LowL (List.replicate m 48) := fun m c hc => by rw [(List.mem_replicate.mp hc).2]; decide
      simp only [List.mem_cons, List.not_mem_nil, or_false] at hv
      rcases hv with rfl | rfl | rfl | rfl | rfl | rfl
      · exact ⟨_, rfl, lr.app q10, by simp; omega⟩
      · exact ⟨_, rfl, q10.app lr, by simp; omega⟩
      · exact ⟨_, rfl, q32.app lr, by simp; omega⟩
      · exact ⟨_, rfl, lr.app q32, by simp; omega⟩
      · exact ⟨[], by decide +kernel, (fun c hc => by cases hc), Nat.zero_le _⟩
      · exact ⟨_, rfl, (lr.app q10).app (q48 _), by simp; omega⟩
    exact k _ _ lg ng ((s06.trans (SameBut.of f7.same)).trans s8) (P8.le (by omega))
end
end Pf
end
section
namespace Pf
open PySem PySem.Spec PyProof.Rows L2 Ow StX
open SX (S)
def ExtB (p : Addr) (H H' : Hp) : Prop := ∀ b o, b ≠ p → H b = some o → (∀ ps, o ≠ .tbl ps) → H' b = some o
theorem ExtB.same {p : Addr} {H H' : Hp} (s : Same H H') : ExtB p H H' := fun b o _ e _ => s b o e
theorem ExtB.but {p : Addr} {H H' : Hp} (s : SameBut p H H') : ExtB p H H' := fun b o n e _ => s b o n e
theorem ExtB.ext {p : Addr} {H H' : Hp} (s : LamX.ExtN H H') : ExtB p H H' := fun b o _ e n => s b o e n
theorem ExtB.trans {p : Addr} {H H1 H2 : Hp} (x : ExtB p H H1) (y : ExtB p H1 H2) : ExtB p H H2 := fun b o n e z => y b o n (x b o n e z) z
structure Sh (d : PyData) : Prop where
  s : d.showable = true
  dp : d.depth ≤ 3
  l : d.leavesShort 62 = true
  w : d.weight ≤ 1000
theorem log_le {i : Nat} (h : i ≤ 1000) : i.log2 < 10 := by
  by_cases e : i = 0
  · rw [e]; decide
  · exact (Nat.log2_lt e).mpr (by omega)
theorem Sh.int {i : Int} (h : i.natAbs ≤ 1000) : Sh (.int i) := by
  have l := log_le h
  refine ⟨decide_eq_true (by omega), by simp [PyData.depth], ?_, ?_⟩
  · simp only [PyData.leavesShort, decide_eq_true_eq]
    exact Nat.le_trans (PyData.shown_int_le (by omega)) (by decide)
  · simp only [PyData.weight]
    split <;> omega
theorem Sh.tup2 {s : Str} {d : PyData} (hs : Sh (.str s)) (h : Sh d) : (PyData.tuple [.str s, d]).showable = true ∧ (PyData.tuple [.str s, d]).depth ≤ 8 ∧ (PyData.tuple [.str s, d]).shown.length ≤ sizeLine := by
  obtain ⟨a1, a2, a3, a4⟩ := hs
  obtain ⟨b1, b2, b3, b4⟩ := h
  refine ⟨by simp [PyData.showable, PyData.showableAll, b1], by simp only [PyData.depth, PyData.depthAll] at *; omega, ?_⟩
  refine Nat.le_trans (PyData.shown_le 62 (by decide) _ (by show (PyData.leavesShort 62 (.str s) && (PyData.leavesShort 62 d && true)) = true; rw [a3, b3]; rfl)) ?_
  simp only [PyData.weight, PyData.weightAll] at *
  exact Nat.le_trans (Nat.add_le_add_right (Nat.mul_le_mul_left 64 (show _ ≤ 3000 by omega)) 62) (by decide)
theorem Sh.tup3 {s : Str} {d e : PyData} (hs : Sh (.str s)) (h : Sh d) (h' : Sh e) : (PyData.tuple [.str s, d, e]).showable = true ∧ (PyData.tuple [.str s, d, e]).depth ≤ 8 ∧ (PyData.tuple [.str s, d, e]).shown.length ≤ sizeLine := by
  obtain ⟨a1, a2, a3, a4⟩ := hs
  obtain ⟨b1, b2, b3, b4⟩ := h
  obtain ⟨c1, c2, c3, c4⟩ := h'
  refine ⟨by simp [PyData.showable, PyData.showableAll, b1, c1], by simp only [PyData.depth, PyData.depthAll] at *; omega, ?_⟩
  refine Nat.le_trans (PyData.shown_le 62 (by decide) _ (by show (PyData.leavesShort 62 (.str s) && (PyData.leavesShort 62 d && (PyData.leavesShort 62 e && true))) = true; rw [a3, b3, c3]; rfl)) ?_
  simp only [PyData.weight, PyData.weightAll] at *
  exact Nat.le_trans (Nat.add_le_add_right (Nat.mul_le_mul_left 64 (show _ ≤ 4000 by omega)) 62) (by decide)
theorem repr2 {K : PySem.W.Frag} {H' : Hp} {v : V} {t : Addr} {s : Str} {d : PyData} {Q : VK} (h : H' t = some (.tup [.str s, v])) (hs : Sh (.str s)) (hd : Sh d) (dq : Dq K H' v d) (k : Q (.str (PyData.tuple [.str s, d]).shown) H') : rReprQ K [.ref t] H' Q :=
  let ⟨d1, d2, d3⟩ := hs.tup2 hd
  ⟨_, _, rfl, .tup (.inl (.inl h)) (.cons (.str _) (.cons dq .nil)), d1, d2, d3, k⟩
theorem repr3 {K : PySem.W.Frag} {H' : Hp} {v u : V} {t : Addr} {s : Str} {d e : PyData} {Q : VK} (h : H' t = some (.tup [.str s, v, u])) (hs : Sh (.str s)) (hd : Sh d) (he : Sh e) (dq : Dq K H' v d) (eq : Dq K H' u e) (k : Q (.str (PyData.tuple [.str s, d, e]).shown) H') : rReprQ K [.ref t] H' Q :=
  let ⟨d1, d2, d3⟩ := hs.tup3 hd he
  ⟨_, _, rfl, .tup (.inl (.inl h)) (.cons (.str _) (.cons dq (.cons eq .nil))), d1, d2, d3, k⟩
theorem tabs_but {TL : List (Addr × Str)} {H H' : Hp} {d : Addr} {o : HO} (t : LamX.Tabs TL H) (h : H d = some o) (h1 : ∀ ps, o ≠ .tbl ps) (h2 : ∀ f, o ≠ .ext f) (s : SameBut d H H') : LamX.Tabs TL H' := fun p hp => by
  obtain ⟨ps, e1, e2, e3⟩ := t p hp
  have ne : ∀ {b : Addr} {u : HO}, H b = some u → u ≠ o → b ≠ d := fun e n z => by
    rw [z, h] at e
    exact n (Option.some.inj e).symm
  refine ⟨ps, s _ _ (ne e1 fun z => h1 _ z.symm) e1, e2, fun pos cv hc => ?_⟩
  obtain ⟨c, q1, q2⟩ := e3 pos cv hc
  exact ⟨c, q1, s _ _ (ne q2 fun z => by unfold LamX.CodeO at z; exact h2 _ z.symm) q2⟩
theorem tabs_same {TL : List (Addr × Str)} {H H' : Hp} (t : LamX.Tabs TL H) (s : Same H H') : LamX.Tabs TL H' := fun p hp => by
  obtain ⟨ps, e1, e2, e3⟩ := t p hp
  exact ⟨ps, s _ _ e1, e2, fun pos cv hc => (e3 pos cv hc).elim fun c q => ⟨c, q.1, s _ _ q.2⟩⟩
theorem Pen.obj {H : Hp} {p c : Addr} {n : Int} (P : Pen H p c n) : ∃ b r : Int, H p = some (.lst [.ref c, .int b, .int r]) := by
  obtain ⟨ns, b, r, h1, _⟩ := P
  exact ⟨b, r, h1⟩
theorem tabs_pen {TL : List (Addr × Str)} {H H' : Hp} {p c : Addr} {n : Int} (t : LamX.Tabs TL H) (P : Pen H p c n) (s : SameBut p H H') : LamX.Tabs TL H' := by
  obtain ⟨b, r, h⟩ := P.obj
  exact tabs_but t h (fun _ z => by cases z) (fun _ z => by cases z) s
theorem Pen.ext {H H' : Hp} {p c : Addr} {n : Int} (P : Pen H p c n) (s : LamX.ExtN H H') : Pen H' p c n := by
  obtain ⟨ns, b, r, e1, e2, e⟩ := P
  exact ⟨ns, b, r, s _ _ e1 (fun _ z => by cases z), s _ _ e2 (fun _ z => by cases z), e⟩
theorem lst_ext {H H' : Hp} {l : Addr} {xs : List V} (h : H l = some (.lst xs)) (s : LamX.ExtN H H') : H' l = some (.lst xs) := s _ _ h fun _ z => by cases z
/-! ### the law -/
abbrev lamQ1 : Str := (Str.ofString "_law_read_right" ++ Str.ofString ".<locals>.") ++ Str.ofString "<lambda>"
abbrev lamQ2 : Str := (Str.ofString "law" ++ Str.ofString ".<locals>.") ++ Str.ofString "<lambda>"
abbrev TLs (T1 T2 : Addr) : List (Addr × Str) := [(T1, lamQ1), (T2, lamQ2)]
theorem in_TL1 (T1 T2 : Addr) : (T1, lamQ1) ∈ TLs T1 T2 := by simp [TLs]
theorem in_TL2 (T1 T2 : Addr) : (T2, lamQ2) ∈ TLs T1 T2 := by simp [TLs]
theorem un_TL1 {T1 T2 : Addr} (n : T1 ≠ T2) (p : Addr × Str) (hp : p ∈ TLs T1 T2) (e : p.1 = T1) : p.2 = lamQ1 := by
  simp only [TLs, List.mem_cons, List.not_mem_nil, or_false] at hp
  rcases hp with rfl | rfl
  · rfl
  · exact absurd e.symm n
theorem un_TL2 {T1 T2 : Addr} (n : T1 ≠ T2) (p : Addr × Str) (hp : p ∈ TLs T1 T2) (e : p.1 = T2) : p.2 = lamQ2 := by
  simp only [TLs, List.mem_cons, List.not_mem_nil, or_false] at hp
  rcases hp with rfl | rfl
  · exact absurd e n
  · rfl
theorem sh_text : Sh (.str "text") := ⟨by decide +kernel, by decide +kernel, by decide +kernel, by decide +kernel⟩
theorem wrong_lt {xs : List V} {k : Nat} (h : wrongV xs = some k) : k < xs.length := by
  cases xs with
  | nil => cases h
  | cons v t =>
    have h : (v :: t).findIdx? (fun u => !okV v u) = some k := h
    exact (List.findIdx?_eq_some_iff_findIdx_eq.mp h).1
/-- the text of a page in a list -/
theorem repr_page {K : PySem.W.Frag} {H : Hp} {l : Addr} {r : List Nat} {Q : VK} (hl : H l = some (.lst [.str (S r)])) (lr : LowL r) (hr : r.length ≤ 10000) (k : Q (.str (PyData.list [.str (S r)]).shown) H) : rReprQ K [.ref l] H Q := by
  refine ⟨_, .list [.str (S r)], rfl, .lst (SqL.of hl) (.cons (.str _) .nil), by simp [PyData.showable, PyData.showableAll], by simp [PyData.depth, PyData.depthAll], ?_, k⟩
  refine Nat.le_trans (PyData.shown_le 62 (by decide) _ ?_) ?_
  · show ((S r).cps.toList.all (fun c => decide (c < 16 ^ 8)) && true) = true
    rw [Bool.and_true, List.all_eq_true]
    exact fun c hc => decide_eq_true (Nat.lt_trans (lr c hc) (by decide))
  · simp only [PyData.weight, PyData.weightAll, SX.S_len, List.size_toArray]
    exact Nat.le_trans (Nat.add_le_add_right (Nat.mul_le_mul_left 64 (show _ ≤ 30000 by omega)) 62) (by decide)
/-- the text of a refusal -/
theorem repr_text {K : PySem.W.Frag} {H : Hp} {t : Addr} {d : Nat} {Q : VK} (ht : H t = some (.tup [.str "text", .int (d : Int), .int 0])) (hd : d ≤ 1000) (k : Q (.str (PyData.tuple [.str "text", .int (d : Int), .int 0]).shown) H) : rReprQ K [.ref t] H Q :=
  repr3 ht sh_text (Sh.int (by omega)) (Sh.int (by decide)) (.int _) (.int _) k
theorem due_le {ls : List (List Nat)} {d : Nat} (h : dueT ls = some d) : d ≤ 200 := by
  unfold dueT at h
  cases hw : wrongV (rowsV (ls.take 200)) with
  | some k =>
    rw [hw] at h
    cases h
    have z : (rowsV (ls.take 200)).length ≤ 200 := by rw [rowsV_len]; exact List.length_take_le ..
    have y := wrong_lt hw
    omega
  | none =>
    rw [hw] at h
    have h : (if ls.length > 200 then some 200 else none) = some d := h
    by_cases hn : ls.length > 200
    · rw [if_pos hn] at h; cases h; exact Nat.le_refl _
    · rw [if_neg hn] at h; cases h
def spRR (T1 T2 : Addr) : Sp := fun vs H Q _ => ∃ r : List Nat, vs = [.str (S r)] ∧ LowL r ∧ r.length ≤ 10000 ∧ LamX.Tabs (TLs T1 T2) H ∧ ∀ H', LamX.ExtN H H' → LamX.Tabs (TLs T1 T2) H' → Q (.bl true) H'
section
variable {P : Program} {w : World} {K : PySem.W.Frag} {mg : Str → Option Value} {base : Heap} {a : Adr}
set_option maxHeartbeats 4000000
theorem ok_rr (T : Txt K mg a) (sb : SysB base) {c1 Tb1 Tb2 : Addr} (ne12 : Tb1 ≠ Tb2) (FC : FnC K "_law_read_right" "_law_read_right" s__law_read_right a._law_read_right c1) (TB1 : LamX.TabB base mg c1 Tb1) : FnG P w K mg base CX0 14 a._law_read_right (spRR Tb1 Tb2) := by
  have G__law_due : FnR P w K mg base CX0 2 a._law_due spLDue := ok_ldue T
  have G_read : FnR P w K mg base (CX P w) 5 a.Picture_read (spRead K a.Picture a.BadText) := ok_read T
  have G_str : FnR P w K mg base CX0 1 a.Picture_str (spStr a.Picture) := ok_str T
  refine FC.okG sc__law_read_right (fun _ _ _ _ _ _ us hl => match us, hl with | [_], _ => rfl) (fun vs H Q E h => by obtain ⟨r, rfl, _⟩ := h; rfl) (fun A outer s H vs Q E hr hg h => ?_)
  obtain ⟨r, rfl, lr, hr', hT, k⟩ := h
  refine ⟨_, (pss_cons (ps_set (i := 1) sc__law_read_right.nd rfl (Or.inl rfl) (pe_callR G__law_due (hr.mono (by decide)) T.m__law_due T.k__law_due pass0 (pa_cons (pv 0) pa_nil)))
      (pss_cons (ps_set (i := 2) sc__law_read_right.nd rfl (Or.inl rfl) (pe_heard (k := 10) (TL := TLs Tb1 Tb2) T rfl TB1 rfl (in_TL1 _ _) (un_TL1 ne12) (hr.mono (by decide)) (LamX.lamS_by (sc := defScope s__law_read_right) (by decide +kernel)) rfl (fun _ _ _ _ _ => rfl) (fun A outer s H E f c' hr' => pe_callTy (call_strO T.o_Picture_str T.f_Picture_str G_str (hr'.mono (by decide)) pass0) (by rfl) T.n_str (by decide +kernel) (pa_cons (ClX.pe_cmeth (pe_glob (v := .ref a.Picture) rfl T.m_Picture rfl) T.cr_Picture T.cm_read G_read (hr'.mono (by decide)) (passUp (takes_of rfl rfl rfl rfl))  (pa_cons (pv 0) pa_nil)) pa_nil))))
      (pss_one (ps_ret (pe_cmpR op_eq (pe_callB (call_reprQ sb hg hr.units) (by rfl) T.n_repr (by decide +kernel) (pa_cons (pv 2) pa_nil)) (pe_callB (call_reprQ sb hg hr.units) (by rfl) T.n_repr (by decide +kernel) (pa_cons (pe_ifExp (pt_cmpR op_isN (pv 1) pe_non (nomark _)) (pe_lst (pa_cons (pv 0) pa_nil)) (pe_tup (pa_cons pe_str (pa_cons (pv 1) (pa_cons pe_int pa_nil))))) pa_nil)) (nomark _)))))), ?_⟩
  simp only [tSeq, tIfS, tTest, tB, tAnd, tOr, tNot, tAndV, tOrV, tNotV, tIf, tOp, tUn, tChain, rEq, rNe, rI0, rI, rU, tCallR, tCons, tNil, tC, tVar, tRet, tRetN, tTup_k, tLst_k, tCB, tNext, tAsg, gName, gTup, gCons, gNil, tDrop, tPar, tFld, ClX.tCVal, tPropR, rBin, rBinT, rNeOwn, rSetL_k, gSub, tMakeK_k, tMethR, rInO, tDNewK_k, tYes, wipe, tMakeR_k, tSMeth, tSMethK, rMulS, decide_true, tNever, sFld, rIsiT, and_false, rListOf, rTupOf, rLenSeq, rIxL, rIxT, rIxS, rCat_k, rRep_k, rSlL_k, rSlS, rNewStrs_k, rAppend_k, tBM, tBM0, tM0, tM1, tSl, tNoPart, tPart, tLc_k, tFor_k, iList, iTup, iEnumT, iRng1, iRng2, iRng2L, iStr, L2.start, List.map, List.length_cons, List.length_nil, List.cons_append, List.nil_append, List.getElem?_cons_succ, List.getElem?_cons_zero, Option.some.injEq, V.int.injEq, V.bl.injEq, V.str.injEq, V.ref.injEq, exists_eq_left', exists_eq_left, and_assoc, exists_and_left, exists_eq, exists_eq', true_and, and_true, List.set_cons_zero, List.set_cons_succ, List.set, decide_eq_true_eq, Bool.not_eq_true', if_true, if_false, rIx, cx_K, nox_K, List.replicate_succ, List.replicate_zero, Nat.reduceSub, Bool.true_eq_false, Bool.false_eq_true, Nat.reduceAdd, List.cons.injEq, reduceCtorEq, false_and, false_or, or_false, tAug, rSetO, rJoin, rNewStrs_k, tMakeL, rStrO, ClX.tCMeth]
  refine ⟨r, rfl, lr, hr', fun H1 s1 => ?_⟩
  have T1 := tabs_same hT s1
  refine ⟨T1, fun H2 x2 T2 => ?_⟩
  have x02 := (LamX.ExtN.of s1).trans x2
  simp only [TTh, tSeq, tIfS, tTest, tB, tAnd, tOr, tNot, tAndV, tOrV, tNotV, tIf, tOp, tUn, tChain, rEq, rNe, rI0, rI, rU, tCallR, tCons, tNil, tC, tVar, tRet, tRetN, tTup_k, tLst_k, tCB, tNext, tAsg, gName, gTup, gCons, gNil, tDrop, tPar, tFld, ClX.tCVal, tPropR, rBin, rBinT, rNeOwn, rSetL_k, gSub, tMakeK_k, tMethR, rInO, tDNewK_k, tYes, wipe, tMakeR_k, tSMeth, tSMethK, rMulS, decide_true, tNever, sFld, rIsiT, and_false, rListOf, rTupOf, rLenSeq, rIxL, rIxT, rIxS, rCat_k, rRep_k, rSlL_k, rSlS, rNewStrs_k, rAppend_k, tBM, tBM0, tM0, tM1, tSl, tNoPart, tPart, tLc_k, tFor_k, iList, iTup, iEnumT, iRng1, iRng2, iRng2L, iStr, L2.start, List.map, List.length_cons, List.length_nil, List.cons_append, List.nil_append, List.getElem?_cons_succ, List.getElem?_cons_zero, Option.some.injEq, V.int.injEq, V.bl.injEq, V.str.injEq, V.ref.injEq, exists_eq_left', exists_eq_left, and_assoc, exists_and_left, exists_eq, exists_eq', true_and, and_true, List.set_cons_zero, List.set_cons_succ, List.set, decide_eq_true_eq, Bool.not_eq_true', if_true, if_false, rIx, cx_K, nox_K, List.replicate_succ, List.replicate_zero, Nat.reduceSub, Bool.true_eq_false, Bool.false_eq_true, Nat.reduceAdd, List.cons.injEq, reduceCtorEq, false_and, false_or, or_false, tAug, rSetO, rJoin, rNewStrs_k, tMakeL, rStrO, ClX.tCMeth]
  refine ⟨_, rfl, .inr ⟨r, rfl, lr, hr', ?_⟩⟩
  cases hd : dueT (lns r) with
  | none =>
    refine .inl ⟨rfl, fun x H3 s3 nx px => ?_⟩
    obtain ⟨wd, g⟩ := good_of lns_pos (lns_low lr) hd
    refine ⟨_, rfl, px.ins, x, wd, _, rfl, px, g, _, rfl, ?_⟩
    rw [join_lns]
    refine kNew.mk (by show 1 ≤ sizeLine; decide) fun l1 H4 f4 => repr_page f4.at_ lr hr' ?_
    simp only [dueV]
    refine kNew.mk (by show 1 ≤ sizeLine; decide) fun l2 H5 f5 => repr_page f5.at_ lr hr' ⟨rfl, ?_⟩
    rw [decide_eq_true rfl]
    have s25 := (s3.trans f4.same).trans f5.same
    exact k _ (x02.trans (LamX.ExtN.of s25)) (tabs_same T2 s25)
  | some d =>
    have dl := due_le hd
    refine .inr ⟨d, rfl, fun H3 s3 ed ned => ⟨rfl, ed, rfl, _, upd_same, _, rfl, _, rfl, kN.mk fun t1 H4 f4 => repr_text f4.at_ (by omega) ?_⟩⟩
    simp only [dueV]
    refine kNew.mk (by show 3 ≤ sizeLine; decide) fun t2 H5 f5 => repr_text f5.at_ (by omega) ⟨rfl, ?_⟩
    rw [decide_eq_true rfl]
    have s25 := ((s3.trans (fresh_upd ned).same).trans f4.same).trans f5.same
    exact k _ (x02.trans (LamX.ExtN.of s25)) (tabs_same T2 s25)
end
end Pf
end
section
namespace Pf
open PySem PySem.Spec PyProof.Rows L2 Ow StX
open SX (S)
theorem joinL_nil : ∀ ys : List (List Nat), TL.joinL [] ys = ys.flatten
  | [] => rfl
  | [x] => by simp [TL.joinL]
  | x :: y :: r => by
    show x ++ ([] ++ TL.joinL [] (y :: r)) = _
    rw [joinL_nil (y :: r)]
    rfl
theorem join_rows (rs : List (List Nat)) : Txt.join (Str.ofString "") (rs.map S) = S rs.flatten := by
  have e : Str.ofString "" = S [] := by decide +kernel
  rw [e, SX.join_S, joinL_nil]
theorem dig_codes {d : Str} (h : Dig d) : ∃ k, 48 ≤ k ∧ k ≤ 57 ∧ d = S [k] := by
  obtain ⟨k, hk, rfl⟩ := h
  obtain ⟨e, _⟩ := dig_S (c := (k : Int)) (by omega) (by omega)
  exact ⟨48 + k, by omega, by omega, by rw [e, Int.toNat_natCast]⟩
theorem digs_codes : ∀ {ds : List Str}, (∀ d ∈ ds, Dig d) → ∃ r : List Nat, ds = (r.map fun c => [c]).map S ∧ DigL r ∧ r.length = ds.length
  | [], _ => ⟨[], rfl, (fun c h => by cases h), rfl⟩
  | d :: t, h => by
    obtain ⟨r, h1, h2, h3⟩ := digs_codes fun x q => h x (List.mem_cons_of_mem _ q)
    obtain ⟨k, k1, k2, e⟩ := dig_codes (h d List.mem_cons_self)
    refine ⟨k :: r, by rw [List.map_cons, List.map_cons, ← h1, e], fun c hc => ?_, by rw [List.length_cons, List.length_cons, h3]⟩
    rcases List.mem_cons.mp hc with rfl | hc
    · exact ⟨k1, k2⟩
    · exact h2 c hc
theorem row_codes {w : Nat} {s : Str} (h : Row w s) : ∃ r : List Nat, s = S r ∧ r.length = w ∧ DigL r := by
  obtain ⟨ds, hl, hd, hs, _⟩ := h
  obtain ⟨r, h1, h2, h3⟩ := digs_codes hd
  refine ⟨r, ?_, by rw [h3, hl], h2⟩
  have e : (r.map fun c => [c]).flatten = r := by
    clear h1 h2 h3
    induction r with
    | nil => rfl
    | cons c t ih => rw [List.map_cons, List.flatten_cons, ih]; rfl
  rw [hs, h1]
  exact (join_rows _).trans (congrArg S e)
theorem rows_codes {w : Nat} : ∀ {ls : List Str}, (∀ s ∈ ls, Row w s) → ∃ rs : List (List Nat), ls = rs.map S ∧ ∀ r ∈ rs, r.length = w ∧ DigL r
  | [], _ => ⟨[], rfl, fun r h => by cases h⟩
  | s :: t, h => by
    obtain ⟨rs, h1, h2⟩ := rows_codes fun x q => h x (List.mem_cons_of_mem _ q)
    obtain ⟨r, e, e1, e2⟩ := row_codes (h s List.mem_cons_self)
    refine ⟨r :: rs, by rw [List.map_cons, ← h1, e], fun q hq => ?_⟩
    rcases List.mem_cons.mp hq with rfl | hq
    · exact ⟨e1, e2⟩
    · exact h2 q hq
/-- the pages tried at the end -/
def texts8 : List Str := [Txt.mul (Str.ofString "0\n") 199 ++ Str.ofString "0", Txt.mul (Str.ofString "0\n") 200 ++ Str.ofString "0", Txt.mul (Str.ofString "0\n") 200 ++ Str.ofString "x", Txt.mul (Str.ofString "0\n") 200, Txt.mul (Str.ofString "0") 200, Txt.mul (Str.ofString "0") 201, Txt.mul (Str.ofString "1\n") 150 ++ Str.ofString "22", Txt.mul (Str.ofString "1\n") 150 ++ Str.ofString "22\n" ++ Txt.mul (Str.ofString "1\n") 60]
theorem texts8_ok : texts8.all (fun x => x.cps.toList.all (fun c => decide (c < 128)) && decide (x.cps.toList.length ≤ 10000)) = true := by decide +kernel
theorem texts8_low {s : Str} (h : s ∈ texts8) : LowL s.cps.toList ∧ s.cps.toList.length ≤ 10000 := by
  have z := List.all_eq_true.mp texts8_ok s h
  rw [Bool.and_eq_true, decide_eq_true_eq, List.all_eq_true] at z
  exact ⟨fun c hc => of_decide_eq_true (z.1 c hc), z.2⟩
theorem mulOk_few {x : Str} {n : Int} (h : 1 ≤ n) (h1 : n ≤ 1000) (hx : x.length ≤ 1000) : MulOk x n := by
  have hm : (x.length : Int) * n ≤ 1000 * 1000 := Int.mul_le_mul (by omega) h1 (by omega) (by omega)
  refine ⟨?_, fun _ _ => ?_, fun _ _ => ?_⟩
  · rw [Bool.or_eq_false_iff]
    exact ⟨decide_eq_false (by omega), decide_eq_false (by omega)⟩
  · have : (x.length : Int) ≤ (2 ^ 63 - 1) / n := Int.le_ediv_of_mul_le (by omega) (by omega)
    omega
  · have : x.length * n.toNat ≤ 1000 * 1000 := Nat.mul_le_mul hx (by omega)
    exact decide_eq_false (Nat.not_lt.mpr (Nat.le_trans this (by decide +kernel)))
theorem tot_rows {w : Nat} : ∀ rs : List (List Nat), (∀ r ∈ rs, r.length = w) → tot rs = rs.length * (w + 1)
  | [], _ => by simp [tot]
  | r :: t, h => by
    show r.length + 1 + tot t = (t.length + 1) * (w + 1)
    rw [tot_rows t fun q hq => h q (List.mem_cons_of_mem _ hq), h r List.mem_cons_self, Nat.add_mul, Nat.one_mul]
    omega
theorem Good.low {w : Nat} {rs : List (List Nat)} (g : Good w rs) : ∀ r ∈ rs, LowL r := fun r hr c hc => by
  have := (g.row r hr).2 c hc
  omega
theorem Good.page {w : Nat} {rs : List (List Nat)} (g : Good w rs) : lns (TL.joinL [10] rs) = rs := lns_join (fun e => by
  have := g.l0
  rw [e] at this
  exact absurd this (by decide)) fun r hr hc => by
    have := (g.row r hr).2 _ hc
    omega
def spLaw (K : PySem.W.Frag) (T1 T2 : Addr) : Sp := fun vs H Q _ => ∃ (sa : Addr) (ns : List Int), vs = [.ref sa] ∧ SqL K H sa (ns.map V.int) ∧ ns.length ≤ 63 ∧ H T1 = some (.tbl #[]) ∧ H T2 = some (.tbl #[]) ∧ ∀ H', Q (.bl true) H'
section
variable {P : Program} {w : World} {K : PySem.W.Frag} {mg : Str → Option Value} {base : Heap} {a : Adr}
set_option maxHeartbeats 4000000
theorem ok_law (T : Txt K mg a) (sb : SysB base) {c1 c2 Tb1 Tb2 : Addr} (ne12 : Tb1 ≠ Tb2) (FC1 : FnC K "_law_read_right" "_law_read_right" s__law_read_right a._law_read_right c1) (TB1 : LamX.TabB base mg c1 Tb1) (FC2 : FnC K "law" "law" s_law a.law c2) (TB2 : LamX.TabB base mg c2 Tb2) : FnG P w K mg base CX0 15 a.law (spLaw K Tb1 Tb2) := by
  have G__law_pen : FnR P w K mg base CX0 1 a._law_pen (spPen K) := ok_pen T
  have G__law_sizes : FnR P w K mg base CX0 3 a._law_sizes spSizes := ok_sizes T
  have G__law_lines : FnR P w K mg base CX0 4 a._law_lines spLines := ok_lines T
  have G__law_bent : FnR P w K mg base CX0 3 a._law_bent spBent := ok_bent T
  have G_read : FnR P w K mg base (CX P w) 5 a.Picture_read (spRead K a.Picture a.BadText) := ok_read T
  obtain ⟨_, O_read, KBr⟩ := ok_readF (P := P) (w := w) (base := base) T
  have G_str : FnR P w K mg base CX0 1 a.Picture_str (spStr a.Picture) := ok_str T
  have G_eq : FnR P w K mg base CX0 3 a.Picture_eq (spPEq K a.Picture) := ok_peq T
  have G_rows : FnR P w K mg base CX0 1 a.Picture_rows (spPRows a.Picture) := ok_prows T
  have G_Picture_rows := G_rows
  have G_Picture_init : FnR P w K mg base CX0 3 a.Picture_init (spPicInit a.Picture) := ok_pic_init T
  have G__law_read_right : FnG P w K mg base CX0 14 a._law_read_right (spRR Tb1 Tb2) := ok_rr T sb ne12 FC1 TB1
  refine FC2.okG sc_law (fun _ _ _ _ _ _ us hl => match us, hl with | [_], _ => rfl) (fun vs H Q E h => by obtain ⟨sa, ns, rfl, _⟩ := h; rfl) (fun A outer s H vs Q E hr hg h => ?_)
  obtain ⟨sa, ns, rfl, hS, hns, hT1, hT2, k⟩ := h
  refine ⟨_, (pss_cons (ps_set (i := 1) sc_law.nd rfl (Or.inl rfl) (pe_callR G__law_pen (hr.mono (by decide)) T.m__law_pen T.k__law_pen pass0 (pa_cons (pv 0) pa_nil)))
      (pss_cons (ps_for PassesOwn.never rfl (pi_range1 rfl T.n_range (pa_cons pe_int pa_nil)) (pg_name (i := 2) sc_law.nd rfl (Or.inl rfl))
          (pss_cons (ps_asg (pe_callR G__law_sizes (hr.mono (by decide)) T.m__law_sizes T.k__law_sizes pass0 (pa_cons (pv 1) pa_nil)) (pg_tup rfl (pgs_cons (pg_name (i := 3) sc_law.nd rfl (Or.inl rfl)) (pgs_cons (pg_name (i := 4) sc_law.nd rfl (Or.inl rfl)) pgs_nil))))
          (pss_cons (ps_set (i := 5) sc_law.nd rfl (Or.inl rfl) (pe_callR G__law_lines (hr.mono (by decide)) T.m__law_lines T.k__law_lines pass0 (pa_cons (pv 1) (pa_cons (pv 3) (pa_cons (pv 4) pa_nil)))))
          (pss_cons (ps_par (i := 6) (j := 7) (by rfl) sc_law.nd rfl rfl (by decide) rfl rfl (pa_cons (pe_makeRR T.M_Picture G_Picture_init (hr.mono (by decide)) T.m_Picture pass0 (pa_cons (pv 5) pa_nil)) (pa_cons (pe_join pe_str (pv 5)) pa_nil)) (by rfl))
          (pss_cons (ps_if (PW.pt (pw_or (pt_cmpR op_ne (pe_callTy (call_strO T.o_Picture_str T.f_Picture_str G_str (hr.mono (by decide)) pass0) (by rfl) T.n_str (by decide +kernel) (pa_cons (pv 6) pa_nil)) (pv 7) (nomark _)) (pw_or (pt_cmpR (op_ne_own T.o_Picture_ne T.o_Picture_eq T.f_Picture_eq T.s_Picture_obj G_eq (hr.mono (by decide)) pass0) (ClX.pe_cmeth (pe_glob (v := .ref a.Picture) rfl T.m_Picture rfl) T.cr_Picture T.cm_read G_read (hr.mono (by decide)) (passUp LamX.takes0)  (pa_cons (pv 7) pa_nil)) (pv 6) (nomark _)) (pw_or1 (pt_cmpR (op_neD hr.units) (pe_propR (pe_cmethK (pe_glob (v := .ref a.Picture) rfl T.m_Picture rfl) T.cr_Picture T.cm_read O_read (hr.mono (by decide)) KBr (passUp LamX.takes0) (pk_cons (pv 7) pk_nil)) T.c_Picture.cl T.p_Picture_rows G_Picture_rows (hr.mono (by decide))  pass0) (pe_callTy call_tupleK (by rfl) T.n_tuple (by decide +kernel) (pa_cons (pv 5) pa_nil)) (nomark _))))))
              (pss_one (ps_ret pe_bl))
              pss_nil)
          (pss_cons (ps_set (i := 8) sc_law.nd rfl (Or.inl rfl) (pe_callR G__law_bent (hr.mono (by decide)) T.m__law_bent T.k__law_bent pass0 (pa_cons (pv 1) (pa_cons (pv 7) pa_nil))))
          (pss_one (ps_if (PW.pt (pw_or (pt_not (pt_val (pe_callG G__law_read_right (hr.mono (by decide)) (by exact hg) T.m__law_read_right T.k__law_read_right pass0 (pa_cons (pv 8) pa_nil)))) (pw_or1 (pt_not (pt_val (pe_callG G__law_read_right (hr.mono (by decide)) (by exact hg) T.m__law_read_right T.k__law_read_right pass0 (pa_cons (pe_callR G__law_bent (hr.mono (by decide)) T.m__law_bent T.k__law_bent pass0 (pa_cons (pv 1) (pa_cons (pv 8) pa_nil))) pa_nil)))))))
              (pss_one (ps_ret pe_bl))
              pss_nil))))))))
      (pss_cons (ps_for PassesOwn.never rfl (pi_list (pe_lst (pa_cons pe_non (pa_cons pe_int (pa_cons (pe_lst (pa_cons pe_str pa_nil)) (pa_cons (pe_tup (pa_cons pe_str pa_nil)) (pa_cons pe_bl (pa_cons pe_dnewK (pa_cons (pe_makeRR T.M_Picture G_Picture_init (hr.mono (by decide)) T.m_Picture pass0 (pa_cons (pe_lst (pa_cons pe_str pa_nil)) pa_nil)) pa_nil))))))))) (pg_name (i := 10) sc_law.nd rfl (Or.inr rfl))
          (pss_one (ps_if (pt_cmpR op_ne (pe_callB (call_reprQ sb hg hr.units) (by rfl) T.n_repr (by decide +kernel) (pa_cons (pe_heard (k := 10) (TL := TLs Tb1 Tb2) T rfl TB2 rfl (in_TL2 _ _) (un_TL2 ne12) (hr.mono (by decide)) (LamX.lamS_by (sc := defScope s_law) (by decide +kernel)) rfl (fun _ _ _ _ _ => rfl) (fun A outer s H E f c' hr' => ClX.pe_cmeth (pe_glob (v := .ref a.Picture) rfl T.m_Picture rfl) T.cr_Picture T.cm_read G_read (hr'.mono (by decide)) (passUp (takes_of rfl rfl rfl rfl))  (pa_cons (pv 10) pa_nil))) pa_nil)) (pe_callB (call_reprQ sb hg hr.units) (by rfl) T.n_repr (by decide +kernel) (pa_cons (pe_tup (pa_cons pe_str (pa_cons pe_int (pa_cons pe_int pa_nil)))) pa_nil)) (nomark _))
              (pss_one (ps_ret pe_bl))
              pss_nil)))
      (pss_cons (ps_set (i := 9) sc_law.nd rfl (Or.inl rfl) (pe_lst (pa_cons (pe_op op_add_str (pe_op op_mulS pe_str pe_int) pe_str) (pa_cons (pe_op op_add_str (pe_op op_mulS pe_str pe_int) pe_str) (pa_cons (pe_op op_add_str (pe_op op_mulS pe_str pe_int) pe_str) (pa_cons (pe_op op_mulS pe_str pe_int) (pa_cons (pe_op op_mulS pe_str pe_int) (pa_cons (pe_op op_mulS pe_str pe_int) pa_nil))))))))
      (pss_cons (ps_set (i := 9) sc_law.nd rfl (Or.inl rfl) (pe_op op_cat (pv 9) (pe_lst (pa_cons (pe_op op_add_str (pe_op op_mulS pe_str pe_int) pe_str) (pa_cons (pe_op op_add_str (pe_op op_add_str (pe_op op_mulS pe_str pe_int) pe_str) (pe_op op_mulS pe_str pe_int)) pa_nil)))))
      (pss_one (ps_ret (pe_cmpR (op_eqD hr.units) (pe_lc (own := [("_law_page", 7)]) (g := gName 7) (by rfl) sc_law.nd (pi_list (pv 9)) (blkOk_by (own := [("_law_page", 7)]) (N := ["_law_script", "_law_pen_here", "_law_turn", "_law_wide", "_law_tall", "_law_lines_here", "_law_made", "_law_page", "_law_bent_here", "_law_some", "_law_odd"]) (sc := defScope s_law) (by decide +kernel)) (fun _ _ _ _ _ => (pg_name (i := 7) sc_law.nd rfl (Or.inl rfl))) (fun _ _ _ _ _ => (pts_one (pt_not (pt_val (pe_callG G__law_read_right (hr.mono (by decide)) (by exact hg) T.m__law_read_right T.k__law_read_right pass0 (pa_cons (pv 7) pa_nil)))))) (fun _ _ _ _ _ => (pv 7))) (pe_lst pa_nil) (nomark _))))))))), ?_⟩
  simp only [tSeq, tIfS, tTest, tB, tAnd, tOr, tNot, tAndV, tOrV, tNotV, tIf, tOp, tUn, tChain, rEq, rNe, rI0, rI, rU, tCallR, tCons, tNil, tC, tVar, tRet, tRetN, tTup_k, tLst_k, tCB, tNext, tAsg, gName, gTup, gCons, gNil, tDrop, tPar, tFld, ClX.tCVal, tPropR, rBin, rBinT, rNeOwn, rSetL_k, gSub, tMakeK_k, tMethR, rInO, tDNewK_k, tYes, wipe, tMakeR_k, tSMeth, tSMethK, rMulS, decide_true, tNever, sFld, rIsiT, and_false, rListOf, rTupOf, rLenSeq, rIxL, rIxT, rIxS, rCat_k, rRep_k, rSlL_k, rSlS, rNewStrs_k, rAppend_k, tBM, tBM0, tM0, tM1, tSl, tNoPart, tPart, tLc_k, tFor_k, iList, iTup, iEnumT, iRng1, iRng2, iRng2L, iStr, L2.start, List.map, List.length_cons, List.length_nil, List.cons_append, List.nil_append, List.getElem?_cons_succ, List.getElem?_cons_zero, Option.some.injEq, V.int.injEq, V.bl.injEq, V.str.injEq, V.ref.injEq, exists_eq_left', exists_eq_left, and_assoc, exists_and_left, exists_eq, exists_eq', true_and, and_true, List.set_cons_zero, List.set_cons_succ, List.set, decide_eq_true_eq, Bool.not_eq_true', if_true, if_false, rIx, cx_K, nox_K, List.replicate_succ, List.replicate_zero, Nat.reduceSub, Bool.true_eq_false, Bool.false_eq_true, Nat.reduceAdd, List.cons.injEq, reduceCtorEq, false_and, false_or, or_false, tAug, rSetO, rJoin, rNewStrs_k, tMakeL, rStrO, ClX.tCMeth]
  refine ⟨sa, ns, rfl, hS, hns, fun p c H1 s1 np P1 => ?_⟩
  have T1 : LamX.Tabs (TLs Tb1 Tb2) H1 := fun q hq => by
    simp only [TLs, List.mem_cons, List.not_mem_nil, or_false] at hq
    rcases hq with rfl | rfl
    · exact LamX.TabS.nil (s1 _ _ hT1)
    · exact LamX.TabS.nil (s1 _ _ hT2)
  simp only [tSeq, tIfS, tTest, tB, tAnd, tOr, tNot, tAndV, tOrV, tNotV, tIf, tOp, tUn, tChain, rEq, rNe, rI0, rI, rU, tCallR, tCons, tNil, tC, tVar, tRet, tRetN, tTup_k, tLst_k, tCB, tNext, tAsg, gName, gTup, gCons, gNil, tDrop, tPar, tFld, ClX.tCVal, tPropR, rBin, rBinT, rNeOwn, rSetL_k, gSub, tMakeK_k, tMethR, rInO, tDNewK_k, tYes, wipe, tMakeR_k, tSMeth, tSMethK, rMulS, decide_true, tNever, sFld, rIsiT, and_false, rListOf, rTupOf, rLenSeq, rIxL, rIxT, rIxS, rCat_k, rRep_k, rSlL_k, rSlS, rNewStrs_k, rAppend_k, tBM, tBM0, tM0, tM1, tSl, tNoPart, tPart, tLc_k, tFor_k, iList, iTup, iEnumT, iRng1, iRng2, iRng2L, iStr, L2.start, List.map, List.length_cons, List.length_nil, List.cons_append, List.nil_append, List.getElem?_cons_succ, List.getElem?_cons_zero, Option.some.injEq, V.int.injEq, V.bl.injEq, V.str.injEq, V.ref.injEq, exists_eq_left', exists_eq_left, and_assoc, exists_and_left, exists_eq, exists_eq', true_and, and_true, List.set_cons_zero, List.set_cons_succ, List.set, decide_eq_true_eq, Bool.not_eq_true', if_true, if_false, rIx, cx_K, nox_K, List.replicate_succ, List.replicate_zero, Nat.reduceSub, Bool.true_eq_false, Bool.false_eq_true, Nat.reduceAdd, List.cons.injEq, reduceCtorEq, false_and, false_or, or_false, tAug, rSetO, rJoin, rNewStrs_k, tMakeL, rStrO, ClX.tCMeth]
  refine ⟨by decide, by decide, ?_⟩
  refine kFor.it walk_range (fun i σ H' => Pen H' p c ((i : Int) * 50000) ∧ LamX.Tabs (TLs Tb1 Tb2) H' ∧ ∃ v2 v3 v4 v5 v6 v7 v8 v9 v10, σ = [some (.ref sa), some (.ref p), v2, v3, v4, v5, v6, v7, v8, v9, v10]) ⟨P1.le (by simp), T1, _, _, _, _, _, _, _, _, _, rfl⟩ (fun _ _ _ _ _ => trivial) (fun i xv σ H2 H3 hi hP hY => ?_) fun σ H2 hP => ?_
  · obtain ⟨P2, T2, v2, v3, v4, v5, v6, v7, v8, v9, v10, rfl⟩ := hP
    obtain ⟨rfl, rfl⟩ := hY
    have hi : i < 6 := hi
    simp only [tSeq, tIfS, tTest, tB, tAnd, tOr, tNot, tAndV, tOrV, tNotV, tIf, tOp, tUn, tChain, rEq, rNe, rI0, rI, rU, tCallR, tCons, tNil, tC, tVar, tRet, tRetN, tTup_k, tLst_k, tCB, tNext, tAsg, gName, gTup, gCons, gNil, tDrop, tPar, tFld, ClX.tCVal, tPropR, rBin, rBinT, rNeOwn, rSetL_k, gSub, tMakeK_k, tMethR, rInO, tDNewK_k, tYes, wipe, tMakeR_k, tSMeth, tSMethK, rMulS, decide_true, tNever, sFld, rIsiT, and_false, rListOf, rTupOf, rLenSeq, rIxL, rIxT, rIxS, rCat_k, rRep_k, rSlL_k, rSlS, rNewStrs_k, rAppend_k, tBM, tBM0, tM0, tM1, tSl, tNoPart, tPart, tLc_k, tFor_k, iList, iTup, iEnumT, iRng1, iRng2, iRng2L, iStr, L2.start, List.map, List.length_cons, List.length_nil, List.cons_append, List.nil_append, List.getElem?_cons_succ, List.getElem?_cons_zero, Option.some.injEq, V.int.injEq, V.bl.injEq, V.str.injEq, V.ref.injEq, exists_eq_left', exists_eq_left, and_assoc, exists_and_left, exists_eq, exists_eq', true_and, and_true, List.set_cons_zero, List.set_cons_succ, List.set, decide_eq_true_eq, Bool.not_eq_true', if_true, if_false, rIx, cx_K, nox_K, List.replicate_succ, List.replicate_zero, Nat.reduceSub, Bool.true_eq_false, Bool.false_eq_true, Nat.reduceAdd, List.cons.injEq, reduceCtorEq, false_and, false_or, or_false, tAug, rSetO, rJoin, rNewStrs_k, tMakeL, rStrO, ClX.tCMeth]
    refine ⟨p, c, _, rfl, P2, by omega, fun tp wd hgt H4 w0 w1 h0 h1 hwh s4 P4 ht4 => ?_⟩
    have T4 := tabs_pen T2 P2 s4
    obtain ⟨wn, rfl⟩ : ∃ m : Nat, wd = (m : Int) := ⟨wd.toNat, by omega⟩
    obtain ⟨hn, rfl⟩ : ∃ m : Nat, hgt = (m : Int) := ⟨hgt.toNat, by omega⟩
    have hb : (hn : Int) * ((wn : Int) + 1) ≤ 200 * 201 := Int.mul_le_mul (by omega) (by omega) (by omega) (by omega)
    have hb0 : 0 ≤ (hn : Int) * ((wn : Int) + 1) := Int.mul_nonneg (by omega) (by omega)
    refine ⟨_, rfl, _, .inl (.inl ht4), rfl, _, _, rfl, _, _, rfl, rfl, ?_⟩
    refine ⟨p, c, _, wn, hn, rfl, P4, by omega, by omega, by omega, by omega, fun l ls HB nl sB PB hlB hll hrow => ?_⟩
    have TB := tabs_pen T4 P4 sB
    obtain ⟨rs, rfl, hrs⟩ := rows_codes hrow
    rw [List.length_map] at hll
    have g : Good wn rs := ⟨by omega, by omega, by omega, by omega, hrs⟩
    rw [List.map_map] at hlB
    have hlp : l ≠ p := (P4.at_p nl).1
    clear P2 P4 T2 T4 s4 sB ht4 nl hrow
    refine newPic g (.inl hlB) fun x H5 s5 nx px => ?_
    have ht : tot rs ≤ 1800 := by
      rw [tot_rows rs fun r hr => (hrs r hr).1, hll]
      rcases hwh with h | h
      · exact Nat.le_trans (Nat.mul_le_mul (show hn ≤ 200 by omega) (show wn + 1 ≤ 9 by omega)) (by decide)
      · exact Nat.le_trans (Nat.mul_le_mul (show hn ≤ 2 by omega) (show wn + 1 ≤ 201 by omega)) (by decide)
    have pl := join_tot rs
    have lp := join_low g.low
    have pg := g.page
    have dg : dueT (lns (TL.joinL [10] rs)) = none := by rw [pg]; exact due_good g
    have l5 := s5 _ _ hlB
    refine ⟨l, rfl, rs.map S, .inl (SqL.of (by rw [List.map_map]; exact l5)), by rw [tot_sum]; omega, ?_⟩
    rw [nlS, SX.join_S]
    generalize hpage : TL.joinL [10] rs = r at *
    refine ⟨x, rfl, px.ins, x, wn, rs, rfl, px, g, _, rfl, rfl, ?_⟩
    rw [hpage, decide_eq_true rfl, if_neg (by decide)]
    refine ⟨_, rfl, .inr ⟨r, rfl, lp, by omega, .inl ⟨dg, fun y H6 s6 ny py => ?_⟩⟩⟩
    rw [pg] at py
    refine ⟨y, rfl, x, rfl, py.ins, (px.same s6).ins, y, rs, wn, _, rfl, py, g, .inl ⟨x, rs, wn, rfl, px.same s6, g, _, rfl, ?_⟩⟩
    rw [decide_eq_true rfl, if_neg (by decide)]
    simp only [tCMethK, tSeq, tIfS, tTest, tB, tAnd, tOr, tNot, tAndV, tOrV, tNotV, tIf, tOp, tUn, tChain, rEq, rNe, rI0, rI, rU, tCallR, tCons, tNil, tC, tVar, tRet, tRetN, tTup_k, tLst_k, tCB, tNext, tAsg, gName, gTup, gCons, gNil, tDrop, tPar, tFld, ClX.tCVal, tPropR, rBin, rBinT, rNeOwn, rSetL_k, gSub, tMakeK_k, tMethR, rInO, tDNewK_k, tYes, wipe, tMakeR_k, tSMeth, tSMethK, rMulS, decide_true, tNever, sFld, rIsiT, and_false, rListOf, rTupOf, rLenSeq, rIxL, rIxT, rIxS, rCat_k, rRep_k, rSlL_k, rSlS, rNewStrs_k, rAppend_k, tBM, tBM0, tM0, tM1, tSl, tNoPart, tPart, tLc_k, tFor_k, iList, iTup, iEnumT, iRng1, iRng2, iRng2L, iStr, L2.start, List.map, List.length_cons, List.length_nil, List.cons_append, List.nil_append, List.getElem?_cons_succ, List.getElem?_cons_zero, Option.some.injEq, V.int.injEq, V.bl.injEq, V.str.injEq, V.ref.injEq, exists_eq_left', exists_eq_left, and_assoc, exists_and_left, exists_eq, exists_eq', true_and, and_true, List.set_cons_zero, List.set_cons_succ, List.set, decide_eq_true_eq, Bool.not_eq_true', if_true, if_false, rIx, cx_K, nox_K, List.replicate_succ, List.replicate_zero, Nat.reduceSub, Bool.true_eq_false, Bool.false_eq_true, Nat.reduceAdd, List.cons.injEq, reduceCtorEq, false_and, false_or, or_false, tAug, rSetO, rJoin, rNewStrs_k, tMakeL, rStrO, ClX.tCMeth]
    refine ⟨_, rfl, .inr ⟨r, rfl, lp, by omega, .inl ⟨dg, fun z H7 s7 nz pz => ?_⟩⟩⟩
    rw [pg] at pz
    obtain ⟨dz, tz, hz, htz⟩ := id pz
    have s57 := s6.trans s7
    refine ⟨z, rfl, dz, _, hz, z, dz, tz, rfl, hz, _, .inl ⟨SqL.of (s57 _ _ l5), kN.mk fun tq H8 f8 => ?_⟩⟩
    refine ⟨.tuple (rowsD rs), .tuple (rowsD rs), .tup (.inl (.inl (f8.get htz))) (dp_rows rs), .tup (.inl (.inl f8.at_)) (dp_rows rs), rows_shaped g, rows_shaped g, ?_⟩
    rw [eqv_rows, decide_eq_true rfl]
    refine ⟨_, rfl, ?_⟩
    rw [if_neg (by decide)]
    have s58 := (s5.trans s57).trans f8.same
    have P8 := PB.same s58
    have T8 := tabs_same TB s58
    refine ⟨p, c, _, r, rfl, P8, by omega, lp, by omega, fun r1 H9 lr1 hr1 s9 P9 => ?_⟩
    have T9 := tabs_pen T8 P8 s9
    refine ⟨r1, rfl, lr1, by omega, T9, fun H10 x10 T10 => ⟨_, rfl, ?_⟩⟩
    rw [if_neg (by decide)]
    have P10 := P9.ext x10
    refine ⟨p, c, _, r1, rfl, P10, by omega, lr1, by omega, fun r2 H11 lr2 hr2 s11 P11 => ?_⟩
    have T11 := tabs_pen T10 P10 s11
    refine ⟨r2, rfl, lr2, by omega, T11, fun H12 x12 T12 => ⟨_, rfl, ?_⟩⟩
    rw [if_neg (by decide)]
    exact ⟨(P11.ext x12).le (by push_cast; omega), T12⟩
  · obtain ⟨P2, T2, v2, v3, v4, v5, v6, v7, v8, v9, v10, rfl⟩ := hP
    refine kNew.mk (by show 1 ≤ sizeLine; decide) fun lo H3 f3 => kNew.mk (by show 1 ≤ sizeLine; decide) fun to H4 f4 => kN.mk fun d0 H5 f5 => kNew.mk (by show 1 ≤ sizeLine; decide) fun lr H6 f6 => ?_
    have g0 : Good 1 [[48]] := ⟨by decide, by decide, by decide, by decide, fun r hr => by
      rw [List.mem_singleton.mp hr]
      exact ⟨rfl, fun c hc => by rw [List.mem_singleton.mp hc]; decide⟩⟩
    have e0 : Str.ofString "0" = S [48] := by decide +kernel
    have l6 := f6.at_
    rw [e0] at l6
    refine newPic g0 (.inl l6) fun x H7 s7 nx px => kNew.mk (by show 7 ≤ sizeLine; decide) fun l H8 f8 => ?_
    simp only [tSeq, tIfS, tTest, tB, tAnd, tOr, tNot, tAndV, tOrV, tNotV, tIf, tOp, tUn, tChain, rEq, rNe, rI0, rI, rU, tCallR, tCons, tNil, tC, tVar, tRet, tRetN, tTup_k, tLst_k, tCB, tNext, tAsg, gName, gTup, gCons, gNil, tDrop, tPar, tFld, ClX.tCVal, tPropR, rBin, rBinT, rNeOwn, rSetL_k, gSub, tMakeK_k, tMethR, rInO, tDNewK_k, tYes, wipe, tMakeR_k, tSMeth, tSMethK, rMulS, decide_true, tNever, sFld, rIsiT, and_false, rListOf, rTupOf, rLenSeq, rIxL, rIxT, rIxS, rCat_k, rRep_k, rSlL_k, rSlS, rNewStrs_k, rAppend_k, tBM, tBM0, tM0, tM1, tSl, tNoPart, tPart, tLc_k, tFor_k, iList, iTup, iEnumT, iRng1, iRng2, iRng2L, iStr, L2.start, List.map, List.length_cons, List.length_nil, List.cons_append, List.nil_append, List.getElem?_cons_succ, List.getElem?_cons_zero, Option.some.injEq, V.int.injEq, V.bl.injEq, V.str.injEq, V.ref.injEq, exists_eq_left', exists_eq_left, and_assoc, exists_and_left, exists_eq, exists_eq', true_and, and_true, List.set_cons_zero, List.set_cons_succ, List.set, decide_eq_true_eq, Bool.not_eq_true', if_true, if_false, rIx, cx_K, nox_K, List.replicate_succ, List.replicate_zero, Nat.reduceSub, Bool.true_eq_false, Bool.false_eq_true, Nat.reduceAdd, List.cons.injEq, reduceCtorEq, false_and, false_or, or_false, tAug, rSetO, rJoin, rNewStrs_k, tMakeL, rStrO, ClX.tCMeth]
    have s18 := ((((f3.same.trans f4.same).trans f5.same).trans f6.same).trans s7).trans f8.same
    have T8 := tabs_same T2 s18
    have l8 := f8.at_
    have no : ∀ v ∈ ([.non, .int 5, .ref lo, .ref to, .bl true, .ref d0, .ref x] : List V), ∀ H', LamX.ExtN H8 H' → NoStrA K H' v := fun v hv H' e => by
      simp only [List.mem_cons, List.not_mem_nil, or_false] at hv
      have g3 := f8.get (s7 _ _ (f6.get (f5.get (f4.get f3.at_))))
      have g4 := f8.get (s7 _ _ (f6.get (f5.get f4.at_)))
      have g5 := f8.get (s7 _ _ (f6.get f5.at_))
      have g7 := px.same f8.same
      rcases hv with rfl | rfl | rfl | rfl | rfl | rfl | rfl
      · exact ⟨_, .base .non, kit_ty (by decide +kernel)⟩
      · exact ⟨_, .base (.int _), kit_ty (by decide +kernel)⟩
      · exact ⟨_, .base (.lst (e _ _ g3 fun _ z => by cases z)), kit_ty (by decide +kernel)⟩
      · exact ⟨_, .base (.tup (e _ _ g4 fun _ z => by cases z)), kit_ty (by decide +kernel)⟩
      · exact ⟨_, .base (.bl _), kit_ty (by decide +kernel)⟩
      · exact ⟨_, .base (.dK (e _ _ g5 fun _ z => by cases z)), kit_ty (by decide +kernel)⟩
      · obtain ⟨dx, tx, h1, h2⟩ := g7
        exact ⟨_, T.c_Picture.tyOf (e _ _ h1 fun _ z => by cases z), kit_bty (by decide) T.sub_Pstr⟩
    refine ⟨⟨_, SqL.of l8⟩, ?_⟩
    clear px nx l6 f3 f4 f5 f6 f8 s7 s18 P2 T2
    refine kFor.it walk_list (fun i σ H' => LamX.ExtN H8 H' ∧ LamX.Tabs (TLs Tb1 Tb2) H' ∧ ∃ v2 v3 v4 v5 v6 v7 v8 v9 v10, σ = [some (.ref sa), some (.ref p), v2, v3, v4, v5, v6, v7, v8, v9, v10]) ⟨LamX.ExtN.of (Same.refl _), T8, _, _, _, _, _, _, _, _, _, rfl⟩ (fun i σ H' _ h => SqL.of (h.1 _ _ l8 fun _ z => by cases z)) (fun i v σ H9 HA hi hP hY => ?_) fun σ H9 hP => ?_
    · obtain ⟨x9, T9, v2, v3, v4, v5, v6, v7, v8, v9, v10, rfl⟩ := hP
      obtain ⟨rfl, hv⟩ := hY
      have hm := List.mem_of_getElem? hv
      simp only [tSeq, tIfS, tTest, tB, tAnd, tOr, tNot, tAndV, tOrV, tNotV, tIf, tOp, tUn, tChain, rEq, rNe, rI0, rI, rU, tCallR, tCons, tNil, tC, tVar, tRet, tRetN, tTup_k, tLst_k, tCB, tNext, tAsg, gName, gTup, gCons, gNil, tDrop, tPar, tFld, ClX.tCVal, tPropR, rBin, rBinT, rNeOwn, rSetL_k, gSub, tMakeK_k, tMethR, rInO, tDNewK_k, tYes, wipe, tMakeR_k, tSMeth, tSMethK, rMulS, decide_true, tNever, sFld, rIsiT, and_false, rListOf, rTupOf, rLenSeq, rIxL, rIxT, rIxS, rCat_k, rRep_k, rSlL_k, rSlS, rNewStrs_k, rAppend_k, tBM, tBM0, tM0, tM1, tSl, tNoPart, tPart, tLc_k, tFor_k, iList, iTup, iEnumT, iRng1, iRng2, iRng2L, iStr, L2.start, List.map, List.length_cons, List.length_nil, List.cons_append, List.nil_append, List.getElem?_cons_succ, List.getElem?_cons_zero, Option.some.injEq, V.int.injEq, V.bl.injEq, V.str.injEq, V.ref.injEq, exists_eq_left', exists_eq_left, and_assoc, exists_and_left, exists_eq, exists_eq', true_and, and_true, List.set_cons_zero, List.set_cons_succ, List.set, decide_eq_true_eq, Bool.not_eq_true', if_true, if_false, rIx, cx_K, nox_K, List.replicate_succ, List.replicate_zero, Nat.reduceSub, Bool.true_eq_false, Bool.false_eq_true, Nat.reduceAdd, List.cons.injEq, reduceCtorEq, false_and, false_or, or_false, tAug, rSetO, rJoin, rNewStrs_k, tMakeL, rStrO, ClX.tCMeth]
      refine ⟨T9, fun HB xB TB => ?_⟩
      have xB' := x9.trans xB
      simp only [TTh, tSeq, tIfS, tTest, tB, tAnd, tOr, tNot, tAndV, tOrV, tNotV, tIf, tOp, tUn, tChain, rEq, rNe, rI0, rI, rU, tCallR, tCons, tNil, tC, tVar, tRet, tRetN, tTup_k, tLst_k, tCB, tNext, tAsg, gName, gTup, gCons, gNil, tDrop, tPar, tFld, ClX.tCVal, tPropR, rBin, rBinT, rNeOwn, rSetL_k, gSub, tMakeK_k, tMethR, rInO, tDNewK_k, tYes, wipe, tMakeR_k, tSMeth, tSMethK, rMulS, decide_true, tNever, sFld, rIsiT, and_false, rListOf, rTupOf, rLenSeq, rIxL, rIxT, rIxS, rCat_k, rRep_k, rSlL_k, rSlS, rNewStrs_k, rAppend_k, tBM, tBM0, tM0, tM1, tSl, tNoPart, tPart, tLc_k, tFor_k, iList, iTup, iEnumT, iRng1, iRng2, iRng2L, iStr, L2.start, List.map, List.length_cons, List.length_nil, List.cons_append, List.nil_append, List.getElem?_cons_succ, List.getElem?_cons_zero, Option.some.injEq, V.int.injEq, V.bl.injEq, V.str.injEq, V.ref.injEq, exists_eq_left', exists_eq_left, and_assoc, exists_and_left, exists_eq, exists_eq', true_and, and_true, List.set_cons_zero, List.set_cons_succ, List.set, decide_eq_true_eq, Bool.not_eq_true', if_true, if_false, rIx, cx_K, nox_K, List.replicate_succ, List.replicate_zero, Nat.reduceSub, Bool.true_eq_false, Bool.false_eq_true, Nat.reduceAdd, List.cons.injEq, reduceCtorEq, false_and, false_or, or_false, tAug, rSetO, rJoin, rNewStrs_k, tMakeL, rStrO, ClX.tCMeth]
      refine ⟨_, rfl, .inl ⟨no v hm HB xB', fun d hd => ?_⟩⟩
      refine ⟨rfl, d, rfl, _, upd_same, _, rfl, _, rfl, kN.mk fun t1 HC fC => repr_text (d := 0) fC.at_ (by decide) ?_⟩
      refine kNew.mk (by show 3 ≤ sizeLine; decide) fun t2 HD fD => repr_text (d := 0) fD.at_ (by decide) ⟨rfl, ?_⟩
      rw [if_neg (by simp)]
      have sD : Same HB HD := ((fresh_upd hd).same.trans fC.same).trans fD.same
      exact ⟨xB'.trans (LamX.ExtN.of sD), tabs_same TB sD⟩
    · obtain ⟨x9, T9, v2, v3, v4, v5, v6, v7, v8, v9, v10, rfl⟩ := hP
      simp only [tSeq, tIfS, tTest, tB, tAnd, tOr, tNot, tAndV, tOrV, tNotV, tIf, tOp, tUn, tChain, rEq, rNe, rI0, rI, rU, tCallR, tCons, tNil, tC, tVar, tRet, tRetN, tTup_k, tLst_k, tCB, tNext, tAsg, gName, gTup, gCons, gNil, tDrop, tPar, tFld, ClX.tCVal, tPropR, rBin, rBinT, rNeOwn, rSetL_k, gSub, tMakeK_k, tMethR, rInO, tDNewK_k, tYes, wipe, tMakeR_k, tSMeth, tSMethK, rMulS, decide_true, tNever, sFld, rIsiT, and_false, rListOf, rTupOf, rLenSeq, rIxL, rIxT, rIxS, rCat_k, rRep_k, rSlL_k, rSlS, rNewStrs_k, rAppend_k, tBM, tBM0, tM0, tM1, tSl, tNoPart, tPart, tLc_k, tFor_k, iList, iTup, iEnumT, iRng1, iRng2, iRng2L, iStr, L2.start, List.map, List.length_cons, List.length_nil, List.cons_append, List.nil_append, List.getElem?_cons_succ, List.getElem?_cons_zero, Option.some.injEq, V.int.injEq, V.bl.injEq, V.str.injEq, V.ref.injEq, exists_eq_left', exists_eq_left, and_assoc, exists_and_left, exists_eq, exists_eq', true_and, and_true, List.set_cons_zero, List.set_cons_succ, List.set, decide_eq_true_eq, Bool.not_eq_true', if_true, if_false, rIx, cx_K, nox_K, List.replicate_succ, List.replicate_zero, Nat.reduceSub, Bool.true_eq_false, Bool.false_eq_true, Nat.reduceAdd, List.cons.injEq, reduceCtorEq, false_and, false_or, or_false, tAug, rSetO, rJoin, rNewStrs_k, tMakeL, rStrO, ClX.tCMeth]
      have sz : ∀ (x y : Str), x.length + y.length ≤ 20000 → x.length + y.length ≤ sizeLine := fun _ _ h => Nat.le_trans h (by decide)
      have m0 : ∀ {n : Int}, 1 ≤ n → n ≤ 1000 → MulOk (Str.ofString "0\n") n := fun a b => mulOk_few a b (by decide +kernel)
      have m1 : ∀ {n : Int}, 1 ≤ n → n ≤ 1000 → MulOk (Str.ofString "1\n") n := fun a b => mulOk_few a b (by decide +kernel)
      have m2 : ∀ {n : Int}, 1 ≤ n → n ≤ 1000 → MulOk (Str.ofString "0") n := fun a b => mulOk_few a b (by decide +kernel)
      refine ⟨m0 (by decide) (by decide), sz _ _ (by decide +kernel), m0 (by decide) (by decide), sz _ _ (by decide +kernel), m0 (by decide) (by decide), sz _ _ (by decide +kernel), m0 (by decide) (by decide), m2 (by decide) (by decide), m2 (by decide) (by decide), kNew.mk (by show 6 ≤ sizeLine; decide) fun la HA fA => ?_⟩
      refine ⟨m1 (by decide) (by decide), sz _ _ (by decide +kernel), m1 (by decide) (by decide), sz _ _ (by decide +kernel), m1 (by decide) (by decide), sz _ _ (by decide +kernel), kNew.mk (by show 2 ≤ sizeLine; decide) fun lb HB fB => ?_⟩
      refine ⟨la, rfl, lb, rfl, _, fB.get fA.at_, _, fB.at_, by show 6 + 2 ≤ sizeLine; decide, kN.mk fun lc HC fC => ?_⟩
      have lC : HC lc = some (.lst (texts8.map V.str)) := fC.at_
      have TC := tabs_same (tabs_same (tabs_same T9 fA.same) fB.same) fC.same
      clear T9 fA fB fC x9 m0 m1 m2 sz
      refine ⟨lc, rfl, ⟨_, SqL.of lC⟩, ?_⟩
      refine kLc.it walk_list (fun D i H' => H' D = some (.lst []) ∧ H' lc = some (.lst (texts8.map V.str)) ∧ LamX.Tabs (TLs Tb1 Tb2) H') (fun D H' f => ⟨f.at_, f.get lC, tabs_same TC f.same⟩) (fun D i H' h => SqL.of h.2.1) (fun D i v HD HE hi hI hY => ?_) fun D HD hI => ?_
      · obtain ⟨h1, h2, h3⟩ := hI
        obtain ⟨rfl, hv⟩ := hY
        obtain ⟨s, hs, rfl⟩ := List.mem_map.mp (List.mem_of_getElem? hv)
        obtain ⟨lw, ln⟩ := texts8_low hs
        simp only [tSeq, tIfS, tTest, tB, tAnd, tOr, tNot, tAndV, tOrV, tNotV, tIf, tOp, tUn, tChain, rEq, rNe, rI0, rI, rU, tCallR, tCons, tNil, tC, tVar, tRet, tRetN, tTup_k, tLst_k, tCB, tNext, tAsg, gName, gTup, gCons, gNil, tDrop, tPar, tFld, ClX.tCVal, tPropR, rBin, rBinT, rNeOwn, rSetL_k, gSub, tMakeK_k, tMethR, rInO, tDNewK_k, tYes, wipe, tMakeR_k, tSMeth, tSMethK, rMulS, decide_true, tNever, sFld, rIsiT, and_false, rListOf, rTupOf, rLenSeq, rIxL, rIxT, rIxS, rCat_k, rRep_k, rSlL_k, rSlS, rNewStrs_k, rAppend_k, tBM, tBM0, tM0, tM1, tSl, tNoPart, tPart, tLc_k, tFor_k, iList, iTup, iEnumT, iRng1, iRng2, iRng2L, iStr, L2.start, List.map, List.length_cons, List.length_nil, List.cons_append, List.nil_append, List.getElem?_cons_succ, List.getElem?_cons_zero, Option.some.injEq, V.int.injEq, V.bl.injEq, V.str.injEq, V.ref.injEq, exists_eq_left', exists_eq_left, and_assoc, exists_and_left, exists_eq, exists_eq', true_and, and_true, List.set_cons_zero, List.set_cons_succ, List.set, decide_eq_true_eq, Bool.not_eq_true', if_true, if_false, rIx, cx_K, nox_K, List.replicate_succ, List.replicate_zero, Nat.reduceSub, Bool.true_eq_false, Bool.false_eq_true, Nat.reduceAdd, List.cons.injEq, reduceCtorEq, false_and, false_or, or_false, tAug, rSetO, rJoin, rNewStrs_k, tMakeL, rStrO, ClX.tCMeth]
        refine ⟨s.cps.toList, by rw [SX.S_tl], lw, ln, h3, fun HF xF TF => ⟨_, rfl, ?_⟩⟩
        exact ⟨xF _ _ h1 (fun _ z => by cases z), xF _ _ h2 (fun _ z => by cases z), TF⟩
      · obtain ⟨h1, h2, h3⟩ := hI
        refine kNew.mk (by show 0 ≤ sizeLine; decide) fun e0 HE fE => ?_
        refine ⟨.list [], .list [], .lst (SqL.of (fE.get h1)) .nil, .lst (SqL.of fE.at_) .nil, by decide +kernel, by decide +kernel, ?_⟩
        exact k _
end
end Pf
end
section
namespace Pf
open PySem PySem.Spec PyProof.Rows L2 Ow StX

theorem fnt_mk {K : PySem.W.Frag} {x qual : Str} {st : Stmt} {f : Addr} {oc : Value} {od an : Option Addr} {osl : Array (Option Value)} {kV doc pm cdv ct : Value}
    (l : K.lookup f = some ⟨oc, od, .func (PySem.W.fnOf x qual (defArgs st) (defBody st) (defScope st) .none kV doc pm an cdv ct), osl⟩) (c : PySem.W.codeIn K cdv qual = true) (k : PySem.W.keepIn K (.ref f) = true) : FnT K x qual st [] f :=
  ⟨_, ⟨⟨oc, od, .none, kV, doc, pm, an, cdv, ct, osl, rfl, l, c, .inl ⟨rfl, rfl⟩, .inl rfl⟩, k⟩⟩
theorem fntD_mk {K : PySem.W.Frag} {x qual : Str} {st : Stmt} {f D : Addr} {oc : Value} {od an : Option Addr} {osl : Array (Option Value)} {kV doc pm cdv ct tc : Value} {td : Option Addr} {tn : Nat} {ts : Array (Option Value)} {its : List Value} {dvs : List V}
    (l : K.lookup f = some ⟨oc, od, .func (PySem.W.fnOf x qual (defArgs st) (defBody st) (defScope st) (.ref D) kV doc pm an cdv ct), osl⟩) (c : PySem.W.codeIn K cdv qual = true) (k : PySem.W.keepIn K (.ref f) = true)
    (t : K.lookup D = some ⟨tc, td, .seq its.toArray tn, ts⟩) (hd : dvs ≠ []) (v : Vals dvs its) : FnT K x qual st dvs f :=
  ⟨_, ⟨⟨oc, od, .ref D, kV, doc, pm, an, cdv, ct, osl, rfl, l, c, .inr ⟨hd, D, _, its, tn, rfl, t, rfl, v⟩, .inl rfl⟩, k⟩⟩
theorem fntD1_mk {K : PySem.W.Frag} {x qual : Str} {st : Stmt} {f D : Addr} {oc : Value} {od an : Option Addr} {osl : Array (Option Value)} {kV doc pm cdv ct tc u : Value} {td : Option Addr} {tn : Nat} {ts : Array (Option Value)} {dv : V}
    (l : K.lookup f = some ⟨oc, od, .func (PySem.W.fnOf x qual (defArgs st) (defBody st) (defScope st) (.ref D) kV doc pm an cdv ct), osl⟩) (c : PySem.W.codeIn K cdv qual = true) (k : PySem.W.keepIn K (.ref f) = true)
    (t : K.lookup D = some ⟨tc, td, .seq #[u] tn, ts⟩) (v : RelV dv u) : FnT K x qual st [dv] f := fntD_mk (its := [u]) l c k t (by simp) (.cons v .nil)
theorem propR_mk {K : PySem.W.Frag} {C p g : Addr} {f : Str} {rest : List Value} (h1 : PySem.W.findIn K (.ref C) f = some (some (.ref p))) (h2 : PySem.W.specialIn K (.ref p) "__get__" = some (some (.builtin "property.__get__")))
    (h3 : PySem.W.takesIn K (.ref p) = some true) (h4 : PySem.W.recIn K p "property" = some (.ref g :: rest)) : PropR K C f p g := ⟨h1, h2, h3, rest, h4⟩
theorem mro2_mk {K : PySem.W.Frag} {C : Addr} {cd : PySem.ClassData} (h : PySem.W.clsIn K C = some cd) (m : (cd.mro == [.ref C, .type "object"]) = true) : mro2 K C = true := by
  unfold mro2
  rw [h]
  exact m

theorem errF_mk {K : PySem.W.Frag} {C g : Addr} {nm q N bs bm sn sub ab col dd k0 k1 k2 k3 k5} (l : K.lookup C = some (excClassObj nm q C N bs bm true sn sub ab col dd k0 k1 k2 k3 k5 "ValueError.__new__")) (r : PySem.HandSPX.refsVE bm = true)
    (s : PySem.W.findIn K (.ref C) "__setattr__" = some (some (.builtin "object.__setattr__"))) (x : PySem.W.subIn K (.ref C) (.type "BaseException") = some true) (t : PySem.W.typeIn K (.ref C) = some (.type "type")) (k : PySem.W.keepIn K (.ref C) = true)
    (i : PySem.W.findIn K (.ref C) "__init__" = some (some (.ref g))) (f : PySem.W.typeIn K (.ref g) = some (.type "function")) : ErrF K C g := ⟨⟨⟨_, _, _, _, _, _, _, _, _, _, _, _, _, _, _, l, r⟩, s, x, t, k⟩, i, f⟩
theorem all_mk {l : PySem.W.OpenLaw} {w : World} {K : PySem.W.Frag} {h : Heap} {mg : Str → Option Value} {fa : Addr} (X : K.In h) (G : h.Ns mainGlobals mg) (hfa : mg "law" = some (.ref fa))
    {x__law_pen x__law_draw x__law_pick x__law_lines x_BadText_init x_is_row x_wrong_row x_Picture_init x_Picture_rows x_Picture_eq x_Picture_str x_Picture_read x__law_heard x__law_sizes x__law_due x__law_bent x__law_read_right x_law x_Picture x_pr_Picture_rows x_BadText x_HoldError x_cm_read c1 Tb1 c2 Tb2 : Addr}
    (n_len : PySem.W.nsIn K mainGlobals "len" = some none)
    (n_int : PySem.W.nsIn K mainGlobals "int" = some none)
    (n_abs : PySem.W.nsIn K mainGlobals "abs" = some none)
    (n_list : PySem.W.nsIn K mainGlobals "list" = some none)
    (n_range : PySem.W.nsIn K mainGlobals "range" = some none)
    (n_repr : PySem.W.nsIn K mainGlobals "repr" = some none)
    (n_tuple : PySem.W.nsIn K mainGlobals "tuple" = some none)
    (n_str : PySem.W.nsIn K mainGlobals "str" = some none)
    (n_isinstance : PySem.W.nsIn K mainGlobals "isinstance" = some none)
    (n_bool : PySem.W.nsIn K mainGlobals "bool" = some none)
    (n_enumerate : PySem.W.nsIn K mainGlobals "enumerate" = some none)
    (n_min : PySem.W.nsIn K mainGlobals "min" = some none)
    (m__law_pen : PySem.W.nsIn K mainGlobals "_law_pen" = some (some (.ref x__law_pen)))
    (m__law_draw : PySem.W.nsIn K mainGlobals "_law_draw" = some (some (.ref x__law_draw)))
    (m__law_pick : PySem.W.nsIn K mainGlobals "_law_pick" = some (some (.ref x__law_pick)))
    (m__law_lines : PySem.W.nsIn K mainGlobals "_law_lines" = some (some (.ref x__law_lines)))
    (m_is_row : PySem.W.nsIn K mainGlobals "is_row" = some (some (.ref x_is_row)))
    (m_wrong_row : PySem.W.nsIn K mainGlobals "wrong_row" = some (some (.ref x_wrong_row)))
    (m__law_heard : PySem.W.nsIn K mainGlobals "_law_heard" = some (some (.ref x__law_heard)))
    (m__law_sizes : PySem.W.nsIn K mainGlobals "_law_sizes" = some (some (.ref x__law_sizes)))
    (m__law_due : PySem.W.nsIn K mainGlobals "_law_due" = some (some (.ref x__law_due)))
    (m__law_bent : PySem.W.nsIn K mainGlobals "_law_bent" = some (some (.ref x__law_bent)))
    (m__law_read_right : PySem.W.nsIn K mainGlobals "_law_read_right" = some (some (.ref x__law_read_right)))
    (m_law : PySem.W.nsIn K mainGlobals "law" = some (some (.ref x_law)))
    (m_Picture : PySem.W.nsIn K mainGlobals "Picture" = some (some (.ref x_Picture)))
    (c_Picture : ClsF K x_Picture)
    (M_Picture : Mk K x_Picture x_Picture_init)
    (a_Picture__rows : PySem.W.findIn K (.ref x_Picture) "_rows" = some none)
    (p_Picture_rows : PropR K x_Picture "rows" x_pr_Picture_rows x_Picture_rows)
    (o_Picture_eq : PySem.W.findIn K (.ref x_Picture) "__eq__" = some (some (.ref x_Picture_eq)))
    (f_Picture_eq : PySem.W.isFn K (.ref x_Picture_eq) = true)
    (o_Picture_str : PySem.W.findIn K (.ref x_Picture) "__str__" = some (some (.ref x_Picture_str)))
    (f_Picture_str : PySem.W.isFn K (.ref x_Picture_str) = true)
    (cr_Picture : ClX.CRead K x_Picture (.type "type"))
    (cv_MOST : ∃ u, ClX.CVal K x_Picture (.type "type") "MOST" (.int 200) u)
    (o_Picture_ne : PySem.W.findIn K (.ref x_Picture) "__ne__" = some (some (.builtin "object.__ne__")))
    (sub_Pstr : PySem.W.subIn K (.ref x_Picture) (.type "str") = some false)
    (s_Picture_obj : PySem.W.subIn K (.ref x_Picture) (.type "object") = some true)
    (cm_read : ClX.CMet K x_Picture (.type "type") "read" x_cm_read x_Picture_read)
    (m_BadText : PySem.W.nsIn K mainGlobals "BadText" = some (some (.ref x_BadText)))
    (e_BadText : ErrF K x_BadText x_BadText_init)
    (a_BadText_line : PySem.W.findIn K (.ref x_BadText) "line" = some none)
    (a_BadText_word : PySem.W.findIn K (.ref x_BadText) "word" = some none)
    (m_HoldError : PySem.W.nsIn K mainGlobals "HoldError" = some (some (.ref x_HoldError)))
    (xf_BadText : XfC K x_BadText)
    (xc_BadText : ExcC K x_BadText)
    (xi_BadText : PySem.W.isClsIn K x_BadText = true)
    (xt_BadText : PySem.W.typeIn K (.ref x_BadText) = some (.type "type"))
    (xm_BadText_HoldError : PySem.W.exmOne K (.ref x_BadText) (.ref x_HoldError) = some true)
    (xm_BadText_BadText : PySem.W.exmOne K (.ref x_BadText) (.ref x_BadText) = some true)
    (d__law_pen : FnT K "_law_pen" "_law_pen" s__law_pen [] x__law_pen)
    (k__law_pen : PySem.W.keepIn K (.ref x__law_pen) = true)
    (d__law_draw : FnT K "_law_draw" "_law_draw" s__law_draw [] x__law_draw)
    (k__law_draw : PySem.W.keepIn K (.ref x__law_draw) = true)
    (d__law_pick : FnT K "_law_pick" "_law_pick" s__law_pick [] x__law_pick)
    (k__law_pick : PySem.W.keepIn K (.ref x__law_pick) = true)
    (d__law_lines : FnT K "_law_lines" "_law_lines" s__law_lines [] x__law_lines)
    (k__law_lines : PySem.W.keepIn K (.ref x__law_lines) = true)
    (d_BadText_init : FnT K "__init__" "BadText.__init__" s_BadText_init [] x_BadText_init)
    (d_is_row : FnT K "is_row" "is_row" s_is_row [] x_is_row)
    (k_is_row : PySem.W.keepIn K (.ref x_is_row) = true)
    (d_wrong_row : FnT K "wrong_row" "wrong_row" s_wrong_row [] x_wrong_row)
    (k_wrong_row : PySem.W.keepIn K (.ref x_wrong_row) = true)
    (d_Picture_init : FnT K "__init__" "Picture.__init__" s_Picture_init [] x_Picture_init)
    (d_Picture_rows : FnT K "rows" "Picture.rows" s_Picture_rows [] x_Picture_rows)
    (d_Picture_eq : FnT K "__eq__" "Picture.__eq__" s_Picture_eq [] x_Picture_eq)
    (d_Picture_str : FnT K "__str__" "Picture.__str__" s_Picture_str [] x_Picture_str)
    (d_Picture_read : FnT K "read" "Picture.read" s_Picture_read [] x_Picture_read)
    (d__law_heard : FnT K "_law_heard" "_law_heard" s__law_heard [] x__law_heard)
    (k__law_heard : PySem.W.keepIn K (.ref x__law_heard) = true)
    (d__law_sizes : FnT K "_law_sizes" "_law_sizes" s__law_sizes [] x__law_sizes)
    (k__law_sizes : PySem.W.keepIn K (.ref x__law_sizes) = true)
    (d__law_due : FnT K "_law_due" "_law_due" s__law_due [] x__law_due)
    (k__law_due : PySem.W.keepIn K (.ref x__law_due) = true)
    (d__law_bent : FnT K "_law_bent" "_law_bent" s__law_bent [] x__law_bent)
    (k__law_bent : PySem.W.keepIn K (.ref x__law_bent) = true)
    (d__law_read_right : FnT K "_law_read_right" "_law_read_right" s__law_read_right [] x__law_read_right)
    (k__law_read_right : PySem.W.keepIn K (.ref x__law_read_right) = true)
    (d_law : FnT K "law" "law" s_law [] x_law)
    (k_law : PySem.W.keepIn K (.ref x_law) = true)
    (FC1 : FnC K "_law_read_right" "_law_read_right" s__law_read_right x__law_read_right c1)
    (CT1 : PySem.W.CodeHd h c1 Tb1)
    (nT1 : List.lookup Tb1 K = none)
    (eT1 : h.get? Tb1 = some { cls := .none, data := .fields #[] })
    (FC2 : FnC K "law" "law" s_law x_law c2)
    (CT2 : PySem.W.CodeHd h c2 Tb2)
    (nT2 : List.lookup Tb2 K = none)
    (eT2 : h.get? Tb2 = some { cls := .none, data := .fields #[] })
    (ne12 : Tb1 ≠ Tb2)
    : LawTL l w K 15 63 mg fa h := by
  have e := hfa.symm.trans (PySem.W.mg_of X G m_law)
  have e2 : x_law = fa := by
    cases e
    rfl
  subst e2
  have T : Txt K mg ⟨x__law_pen, x__law_draw, x__law_pick, x__law_lines, x_BadText_init, x_is_row, x_wrong_row, x_Picture_init, x_Picture_rows, x_Picture_eq, x_Picture_str, x_Picture_read, x__law_heard, x__law_sizes, x__law_due, x__law_bent, x__law_read_right, x_law, x_Picture, x_pr_Picture_rows, x_BadText, x_HoldError, x_cm_read⟩ :=
    { n_len := PySem.W.mg_none_of X G n_len,
      n_int := PySem.W.mg_none_of X G n_int,
      n_abs := PySem.W.mg_none_of X G n_abs,
      n_list := PySem.W.mg_none_of X G n_list,
      n_range := PySem.W.mg_none_of X G n_range,
      n_repr := PySem.W.mg_none_of X G n_repr,
      n_tuple := PySem.W.mg_none_of X G n_tuple,
      n_str := PySem.W.mg_none_of X G n_str,
      n_isinstance := PySem.W.mg_none_of X G n_isinstance,
      n_bool := PySem.W.mg_none_of X G n_bool,
      n_enumerate := PySem.W.mg_none_of X G n_enumerate,
      n_min := PySem.W.mg_none_of X G n_min,
      d__law_pen := d__law_pen,
      m__law_pen := PySem.W.mg_of X G m__law_pen,
      k__law_pen := k__law_pen,
      d__law_draw := d__law_draw,
      m__law_draw := PySem.W.mg_of X G m__law_draw,
      k__law_draw := k__law_draw,
      d__law_pick := d__law_pick,
      m__law_pick := PySem.W.mg_of X G m__law_pick,
      k__law_pick := k__law_pick,
      d__law_lines := d__law_lines,
      m__law_lines := PySem.W.mg_of X G m__law_lines,
      k__law_lines := k__law_lines,
      d_BadText_init := d_BadText_init,
      d_is_row := d_is_row,
      m_is_row := PySem.W.mg_of X G m_is_row,
      k_is_row := k_is_row,
      d_wrong_row := d_wrong_row,
      m_wrong_row := PySem.W.mg_of X G m_wrong_row,
      k_wrong_row := k_wrong_row,
      d_Picture_init := d_Picture_init,
      d_Picture_rows := d_Picture_rows,
      d_Picture_eq := d_Picture_eq,
      d_Picture_str := d_Picture_str,
      d_Picture_read := d_Picture_read,
      d__law_heard := d__law_heard,
      m__law_heard := PySem.W.mg_of X G m__law_heard,
      k__law_heard := k__law_heard,
      d__law_sizes := d__law_sizes,
      m__law_sizes := PySem.W.mg_of X G m__law_sizes,
      k__law_sizes := k__law_sizes,
      d__law_due := d__law_due,
      m__law_due := PySem.W.mg_of X G m__law_due,
      k__law_due := k__law_due,
      d__law_bent := d__law_bent,
      m__law_bent := PySem.W.mg_of X G m__law_bent,
      k__law_bent := k__law_bent,
      d__law_read_right := d__law_read_right,
      m__law_read_right := PySem.W.mg_of X G m__law_read_right,
      k__law_read_right := k__law_read_right,
      d_law := d_law,
      m_law := PySem.W.mg_of X G m_law,
      k_law := k_law,
      m_Picture := PySem.W.mg_of X G m_Picture,
      c_Picture := c_Picture,
      M_Picture := M_Picture,
      a_Picture__rows := a_Picture__rows,
      p_Picture_rows := p_Picture_rows,
      o_Picture_eq := o_Picture_eq,
      f_Picture_eq := f_Picture_eq,
      o_Picture_str := o_Picture_str,
      f_Picture_str := f_Picture_str,
      cr_Picture := cr_Picture,
      cv_MOST := cv_MOST,
      o_Picture_ne := o_Picture_ne,
      sub_Pstr := sub_Pstr,
      s_Picture_obj := s_Picture_obj,
      cm_read := cm_read,
      m_HoldError := PySem.W.mg_of X G m_HoldError,
      xf_BadText := xf_BadText,
      xc_BadText := xc_BadText,
      xi_BadText := xi_BadText,
      xt_BadText := xt_BadText,
      xm_BadText_HoldError := xm_BadText_HoldError,
      xm_BadText_BadText := xm_BadText_BadText,
      m_BadText := PySem.W.mg_of X G m_BadText,
      e_BadText := e_BadText,
      a_BadText_line := a_BadText_line,
      a_BadText_word := a_BadText_word }
  refine ⟨[(c1, Tb1), (c2, Tb2)], spLaw K Tb1 Tb2, ⟨?_, ?_, ?_⟩, fun H a ns hl hT hS => ⟨a, ns, rfl, hS, hl, hT (c1, Tb1) (by simp), hT (c2, Tb2) (by simp), fun _ => rfl⟩, fun base _ _ TB sb => ?_⟩
  · exact fun q hq => by
      simp only [List.mem_cons, List.not_mem_nil, or_false] at hq
      rcases hq with rfl | rfl
      · exact eT1
      · exact eT2
  · exact fun q hq => by
      simp only [List.mem_cons, List.not_mem_nil, or_false] at hq
      rcases hq with rfl | rfl
      · exact nT1
      · exact nT2
  · exact fun q hq => by
      simp only [List.mem_cons, List.not_mem_nil, or_false] at hq
      rcases hq with rfl | rfl
      · exact CT1
      · exact CT2
  have TB1 := TB (c1, Tb1) (by simp)
  have TB2 := TB (c2, Tb2) (by simp)
  exact ok_law T sb ne12 FC1 TB1 FC2 TB2
end Pf
end
open PySem PySem.W PyProof.Rows
set_option maxRecDepth 100000 in
set_option maxHeartbeats 0 in
theorem PySem.Challenge.cw_heldfloods_k24_texts_of_pictures_holds : PySem.Challenge.rw_heldfloods_k24_texts_of_pictures.Holds := by
  w_on; o_law; k_head; (case hw => w_witness2)
  k_fill
  refine Ow.walk_ofTL (l := PySem.Challenge.rw_heldfloods_k24_texts_of_pictures) (k := 15) (n := 63) (by decide +kernel) rfl (by decide) rfl ⟨rfl, by decide, by decide⟩ (fun w h Y => PySem.W.km_in_of Y) ?F
  case F =>
    intro w mg fa h Y KX G hmg
    refine' Pf.all_mk KX G hmg ?n_len ?n_int ?n_abs ?n_list ?n_range ?n_repr ?n_tuple ?n_str ?n_isinstance ?n_bool ?n_enumerate ?n_min ?m__law_pen ?m__law_draw ?m__law_pick ?m__law_lines ?m_is_row ?m_wrong_row ?m__law_heard ?m__law_sizes ?m__law_due ?m__law_bent ?m__law_read_right ?m_law ?m_Picture ?c_Picture ?M_Picture ?a_Picture__rows ?p_Picture_rows ?o_Picture_eq ?f_Picture_eq ?o_Picture_str ?f_Picture_str ?cr_Picture ?cv_MOST ?o_Picture_ne ?sub_Pstr ?s_Picture_obj ?cm_read ?m_BadText ?e_BadText ?a_BadText_line ?a_BadText_word ?m_HoldError ?xf_BadText ?xc_BadText ?xi_BadText ?xt_BadText ?xm_BadText_HoldError ?xm_BadText_BadText ?d__law_pen ?k__law_pen ?d__law_draw ?k__law_draw ?d__law_pick ?k__law_pick ?d__law_lines ?k__law_lines ?d_BadText_init ?d_is_row ?k_is_row ?d_wrong_row ?k_wrong_row ?d_Picture_init ?d_Picture_rows ?d_Picture_eq ?d_Picture_str ?d_Picture_read ?d__law_heard ?k__law_heard ?d__law_sizes ?k__law_sizes ?d__law_due ?k__law_due ?d__law_bent ?k__law_bent ?d__law_read_right ?k__law_read_right ?d_law ?k_law ?FC1 ?CT1 ?nT1 ?eT1 ?FC2 ?CT2 ?nT2 ?eT2 ?ne12
    (case n_len => k_is)
    (case n_int => k_is)
    (case n_abs => k_is)
    (case n_list => k_is)
    (case n_range => k_is)
    (case n_repr => k_is)
    (case n_tuple => k_is)
    (case n_str => k_is)
    (case n_isinstance => k_is)
    (case n_bool => k_is)
    (case n_enumerate => k_is)
    (case n_min => k_is)
    (case m__law_pen => k_is)
    (case m__law_draw => k_is)
    (case m__law_pick => k_is)
    (case m__law_lines => k_is)
    (case m_is_row => k_is)
    (case m_wrong_row => k_is)
    (case m__law_heard => k_is)
    (case m__law_sizes => k_is)
    (case m__law_due => k_is)
    (case m__law_bent => k_is)
    (case m__law_read_right => k_is)
    (case m_law => k_is)
    (case m_Picture => k_is)
    (case c_Picture => (refine' ⟨⟨?_, ?_, ?_, ?_⟩, ?_, ?_, ?_, ?_, ?_, ?_⟩ <;> k_is))
    (case M_Picture => (refine' ⟨?a, ?b, ?c, ?d⟩; (case a => k_is); (case b => k_is); (case c => k_is); (case d => k_is)))
    (case a_Picture__rows => k_is)
    (case p_Picture_rows => (refine' Pf.propR_mk ?a ?b ?c ?d; (case a => k_is); (case b => k_is); (case c => k_is); (case d => k_is)))
    (case o_Picture_eq => k_is)
    (case f_Picture_eq => k_is)
    (case o_Picture_str => k_is)
    (case f_Picture_str => k_is)
    (case cr_Picture => (refine' ⟨?a, ?b⟩; (case a => k_is); (case b => k_is)))
    (case cv_MOST => (refine' ⟨_, ⟨?a, ?b⟩⟩; (case a => k_is); (case b => exact ⟨_, rfl⟩)))
    (case o_Picture_ne => k_is)
    (case sub_Pstr => k_is)
    (case s_Picture_obj => k_is)
    (case cm_read => (refine' Pf.cmet_mk ?a ?b ?c ?d ?e ?f ?g; (case a => k_is); (case b => k_is); (case c => k_is); (case d => k_is); (case e => k_is); (case f => k_is); (case g => first | rfl | decide)))
    (case m_BadText => k_is)
    (case e_BadText => (refine' Pf.errF_mk ?l ?r ?s ?x ?t ?k ?i ?f; (case l => k_is); (case r => rfl); (case s => k_is); (case x => k_is); (case t => k_is); (case k => k_is); (case i => k_is); (case f => k_is)))
    (case a_BadText_line => k_is)
    (case a_BadText_word => k_is)
    (case m_HoldError => k_is)
    (case xf_BadText => (refine' ⟨?a, ?b, ?c, ?d⟩; (case a => k_is); (case b => k_is); (case c => k_is); (case d => k_is)))
    (case xc_BadText => (refine' ⟨?a, ?b, ?c, ?d, ?e, ?f, ?g, ?h⟩; (case a => k_is); (case b => k_is); (case c => k_is); (case d => k_is); (case e => k_is); (case f => k_is); (case g => k_is); (case h => k_is)))
    (case xi_BadText => k_is)
    (case xt_BadText => k_is)
    (case xm_BadText_HoldError => (refine' PySem.W.exm_ref ?a ?b ?c ?d; (case a => k_is); (case b => k_is); (case c => k_is); (case d => k_is)))
    (case xm_BadText_BadText => (refine' PySem.W.exm_ref ?a ?b ?c ?d; (case a => k_is); (case b => k_is); (case c => k_is); (case d => k_is)))
    (case d__law_pen => (refine' Pf.fnt_mk ?l ?c ?k; (case l => k_is); (case c => k_is); (case k => k_is)))
    (case k__law_pen => k_is)
    (case d__law_draw => (refine' Pf.fnt_mk ?l ?c ?k; (case l => k_is); (case c => k_is); (case k => k_is)))
    (case k__law_draw => k_is)
    (case d__law_pick => (refine' Pf.fnt_mk ?l ?c ?k; (case l => k_is); (case c => k_is); (case k => k_is)))
    (case k__law_pick => k_is)
    (case d__law_lines => (refine' Pf.fnt_mk ?l ?c ?k; (case l => k_is); (case c => k_is); (case k => k_is)))
    (case k__law_lines => k_is)
    (case d_BadText_init => (refine' Pf.fnt_mk ?l ?c ?k; (case l => k_is); (case c => k_is); (case k => k_is)))
    (case d_is_row => (refine' Pf.fnt_mk ?l ?c ?k; (case l => k_is); (case c => k_is); (case k => k_is)))
    (case k_is_row => k_is)
    (case d_wrong_row => (refine' Pf.fnt_mk ?l ?c ?k; (case l => k_is); (case c => k_is); (case k => k_is)))
    (case k_wrong_row => k_is)
    (case d_Picture_init => (refine' Pf.fnt_mk ?l ?c ?k; (case l => k_is); (case c => k_is); (case k => k_is)))
    (case d_Picture_rows => (refine' Pf.fnt_mk ?l ?c ?k; (case l => k_is); (case c => k_is); (case k => k_is)))
    (case d_Picture_eq => (refine' Pf.fnt_mk ?l ?c ?k; (case l => k_is); (case c => k_is); (case k => k_is)))
    (case d_Picture_str => (refine' Pf.fnt_mk ?l ?c ?k; (case l => k_is); (case c => k_is); (case k => k_is)))
    (case d_Picture_read => (refine' Pf.fnt_mk ?l ?c ?k; (case l => k_is); (case c => k_is); (case k => k_is)))
    (case d__law_heard => (refine' Pf.fnt_mk ?l ?c ?k; (case l => k_is); (case c => k_is); (case k => k_is)))
    (case k__law_heard => k_is)
    (case d__law_sizes => (refine' Pf.fnt_mk ?l ?c ?k; (case l => k_is); (case c => k_is); (case k => k_is)))
    (case k__law_sizes => k_is)
    (case d__law_due => (refine' Pf.fnt_mk ?l ?c ?k; (case l => k_is); (case c => k_is); (case k => k_is)))
    (case k__law_due => k_is)
    (case d__law_bent => (refine' Pf.fnt_mk ?l ?c ?k; (case l => k_is); (case c => k_is); (case k => k_is)))
    (case k__law_bent => k_is)
    (case d__law_read_right => (refine' Pf.fnt_mk ?l ?c ?k; (case l => k_is); (case c => k_is); (case k => k_is)))
    (case k__law_read_right => k_is)
    (case d_law => (refine' Pf.fnt_mk ?l ?c ?k; (case l => k_is); (case c => k_is); (case k => k_is)))
    (case k_law => k_is)
    (case FC1 => (refine' Ow.FnC.mk ?l ?c; (case l => k_is); (case c => k_is)))
    (case CT1 => (refine' Ow.codeHd_mk KX ?l ?e1 ?e2 ?e3 ?e4 ?e5 ?e6 ?ne; (case l => k_is); (case e1 => rfl); (case e2 => rfl); (case e3 => rfl); (case e4 => rfl); (case e5 => rfl); (case e6 => rfl); (case ne => decide)))
    (case nT1 => exact Ow.km_none Y (by decide +kernel))
    (case eT1 => exact PySem.W.km_tabs_of Y _ (by simp))
    (case FC2 => (refine' Ow.FnC.mk ?l ?c; (case l => k_is); (case c => k_is)))
    (case CT2 => (refine' Ow.codeHd_mk KX ?l ?e1 ?e2 ?e3 ?e4 ?e5 ?e6 ?ne; (case l => k_is); (case e1 => rfl); (case e2 => rfl); (case e3 => rfl); (case e4 => rfl); (case e5 => rfl); (case e6 => rfl); (case ne => decide)))
    (case nT2 => exact Ow.km_none Y (by decide +kernel))
    (case eT2 => exact PySem.W.km_tabs_of Y _ (by simp))
    (case ne12 => decide)
