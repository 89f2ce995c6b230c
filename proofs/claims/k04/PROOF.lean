import PyProof.Rows.All
import Wide.All
import OpenK.AllK
import Wide.FinOn
import PyProof.EqAt
import PyProof.EqKinds
import PyProof.TupleCall
import PyProof.InstNe
import KE.KOpsOwn
import HandS.Base
import HandS.Call
import HandS.List
import HandS.More
import PyProof.TwoTypesSub
import PyProof.AutoIntOps
import PyProof.StrReplace2
import HandS.Words
import HandS.Star
import HandS.IsInst
import HandS.Defaults
import HandS.Property
import HandS.OwnEq
import HandS.Lambda
import HandS.Ends
import PyProof.ReprRoads
import HandS.ForMost
import HandS.Wide
import HandS.Comp
import PySem.Challenge.RW_heldfloods_k04_places_in_order
set_option Elab.async false
set_option linter.all false
set_option maxRecDepth 100000
section
set_option maxHeartbeats 4000000
/-! Operators that an own class defines, over instances that are tracked. -/
namespace Ow
open PySem PySem.Spec PyProof.Rows L2

/-- an instance of the class at C stands at a -/
def InsAt (H : Hp) (a C : Addr) : Prop := ∃ dx fs, H a = some (.ins C dx fs)

section
variable {X : Cx} {CX : CXT} {n : Nat} {C g : Addr} {sp : Sp} {E : XK}

theorem inst_of {pins : List (Addr × Obj)} {σ : L2.St} {H : Hp} {s : Shared} {a : Addr} (I : Inv X pins σ H s) (h : InsAt H a C) : ∃ ox od, PySem.W.InstAt s.heap a ox C od := by
  obtain ⟨dx, fs, ea⟩ := h
  obtain ⟨mA, O, _⟩ := ins_get I.hok ea
  obtain ⟨od, J, _⟩ := O.look
  exact ⟨_, _, J⟩

theorem cmpbackR {Q : Value → Shared → Prop} {v : V} {u : Value} {s : Shared} (r : RelV v u) (q : Q u s) : PySem.W.CmpBack Q u s := by
  cases v <;> first
    | (cases r; exact q)
    | (obtain ⟨t, rfl⟩ := r; exact q)

/-- x op y, both instances of C -/
def rBin (C : Addr) (sp : Sp) (E : XK) : R2 := fun x y H Q => ∃ a b, x = .ref a ∧ y = .ref b ∧ InsAt H a C ∧ InsAt H b C ∧ sp [x, y] H Q E
theorem op_bin {op : Operator} (hc : PySem.W.selfFirst X.K C = true) (hs : PySem.W.findIn X.K (.ref C) (PySem.dunder op.info.2) = some (some (.ref g))) (hf : PySem.W.isFn X.K (.ref g) = true)
    (F : FnR X.prog X.w X.K X.mg X.base CX n g sp) (hr : Room n X.A) (hx : Passes CX X E) : OpR X (binaryOp op) (rBin C sp E) := by
  intro pins s σ H x y v u Q I rx ry h
  obtain ⟨a, b, rfl, rfl, ha, hb, q⟩ := h
  cases (show v = Value.ref a from rx)
  cases (show u = Value.ref b from ry)
  obtain ⟨ox, od, J⟩ := inst_of I ha
  obtain ⟨oy, od', J'⟩ := inst_of I hb
  obtain ⟨m, hF⟩ := I.fr
  refine PySem.W.binop_K (op := op) hF I.ok.mod.kin J J'.type hc hs hf ?_
  refine wpAny_mono (wpAny_call (run_fnR (us := [.ref a, .ref b]) (vs := [.ref a, .ref b]) F hr hx I (.cons rfl (.cons rfl .nil)) q)) (fun w s' z => ?_) fun _ _ x => x
  obtain ⟨z', H', I', rz, qz⟩ := z
  exact cmpbackR rz ⟨z', H', I', rz, qz⟩

/-- x op n, an instance of C and an int -/
def rBinI (C : Addr) (sp : Sp) (E : XK) : R2 := fun x y H Q => ∃ a i, x = .ref a ∧ y = .int i ∧ InsAt H a C ∧ sp [x, y] H Q E
theorem op_binI {op : Operator} {fo ro rc : Option Value} (hc : PySem.W.selfFirst X.K C = true) (hs : PySem.W.findIn X.K (.ref C) (PySem.dunder op.info.2) = some (some (.ref g))) (hf : PySem.W.isFn X.K (.ref g) = true)
    (hrr : PySem.W.findIn X.K (.ref C) (dunderR op.info.2) = some rc) (hp : rc = none ∨ ∃ g : Addr, rc = some (.ref g))
    (h1 : PySem.W.findIn X.K (.type "int") (PySem.dunder op.info.2) = some fo) (h2 : PySem.W.findIn X.K (.type "int") (dunderR op.info.2) = some ro) (hsub : PySem.W.subIn X.K (.type "int") (.ref C) = some false)
    (F : FnR X.prog X.w X.K X.mg X.base CX n g sp) (hr : Room n X.A) (hx : Passes CX X E) : OpR X (binaryOp op) (rBinI C sp E) := by
  intro pins s σ H x y v u Q I rx ry h
  obtain ⟨a, i, rfl, rfl, ha, q⟩ := h
  cases (show v = Value.ref a from rx)
  obtain ⟨t, rfl⟩ := ry
  obtain ⟨ox, od, J⟩ := inst_of I ha
  obtain ⟨m, hF⟩ := I.fr
  refine PySem.W.ksp_binT (op := op) (T := "int") hF I.ok.mod.kin J rfl hc hs hf hrr hp h1 h2 hsub ?_
  refine wpAny_mono (wpAny_call (run_fnR (us := [.ref a, .int i t]) (vs := [.ref a, .int i]) F hr hx I (.cons rfl (.cons ⟨t, rfl⟩ .nil)) q)) (fun w s' z => ?_) fun _ _ x => x
  obtain ⟨z', H', I', rz, qz⟩ := z
  exact cmpbackR rz ⟨z', H', I', rz, qz⟩

/-- ~x -/
def rUn (C : Addr) (sp : Sp) (E : XK) : V → Hp → VK → Prop := fun x H Q => ∃ a, x = .ref a ∧ InsAt H a C ∧ sp [x] H Q E
theorem un_inv_own (hs : PySem.W.findIn X.K (.ref C) "__invert__" = some (some (.ref g))) (hf : PySem.W.isFn X.K (.ref g) = true)
    (F : FnR X.prog X.w X.K X.mg X.base CX n g sp) (hr : Room n X.A) (hx : Passes CX X E) : UnR X (unaryOp .Invert) (rUn C sp E) := by
  intro pins s σ H x v Q I rx h
  obtain ⟨a, rfl, ha, q⟩ := h
  cases (show v = Value.ref a from rx)
  obtain ⟨ox, od, J⟩ := inst_of I ha
  obtain ⟨m, hF⟩ := I.fr
  refine PySem.W.ksp_inv hF I.ok.mod.kin J hs hf ?_
  exact wpAny_call (run_fnR (us := [.ref a]) (vs := [.ref a]) F hr hx I (.cons rfl .nil) q)

/-- x op y, a comparison whose def stands at g; y an instance of C too -/
theorem op_cmp {op : CmpOp} (hop : ∀ a b, compareOp op a b = richCompare op a b) (hs : PySem.W.findIn X.K (.ref C) (cmpInfo op).2.1 = some (some (.ref g))) (hf : PySem.W.isFn X.K (.ref g) = true) (hn : PySem.W.notFirst X.K C (.ref C) = true)
    (F : FnR X.prog X.w X.K X.mg X.base CX n g sp) (hr : Room n X.A) (hx : Passes CX X E) : OpR X (compareOp op) (rBin C sp E) := by
  intro pins s σ H x y v u Q I rx ry h
  obtain ⟨a, b, rfl, rfl, ha, hb, q⟩ := h
  cases (show v = Value.ref a from rx)
  cases (show u = Value.ref b from ry)
  obtain ⟨ox, od, J⟩ := inst_of I ha
  obtain ⟨oy, od', J'⟩ := inst_of I hb
  obtain ⟨m, hF⟩ := I.fr
  rw [hop]
  refine PySem.W.cmp_K (op := op) (tb := .ref C) hr.units0 hF I.ok.mod.kin J J'.type hn hs hf ?_
  refine wpAny_mono (wpAny_call (run_fnR (us := [.ref a, .ref b]) (vs := [.ref a, .ref b]) F hr hx I (.cons rfl (.cons rfl .nil)) q)) (fun w s' z => ?_) fun _ _ x => x
  obtain ⟨z', H', I', rz, qz⟩ := z
  exact cmpbackR rz ⟨z', H', I', rz, qz⟩
end
end Ow
end
section
set_option maxHeartbeats 4000000
namespace Ow
open PySem PySem.Spec PyProof.Rows L2 PySem.W

section
variable {prog : Program} {w : World} {M : Model} {A : Around} {E : Value → Shared → Prop} {s : Shared} {K : Frag} {x C L f : Addr} {h₀ : Heap} {m : Str → Option Value} {ox : Obj} {od : Option Obj} {nm : String}

theorem add_ref_at {i : Int} {t : Tok} {x C dx : Addr} : GivesAt (fun s => s.heap.get? x = some (instObj C dx)) (Builtin.«int.__add__» ⟨[.int i t, .ref x], []⟩) (.val Value.notImplemented) := by
  intro prog w A R s hx h
  obtain ⟨hp, g, d, tk, os⟩ := s
  have hl : ∀ {M : Model} {A : Around} {E : Value → Shared → Prop} {Q : Option Int → Shared → Prop}, Q none ⟨hp, g, d, tk, os⟩ → wpAny M A (asInt? (.ref x)) Q E ⟨hp, g, d, tk, os⟩ := by
    intro M A E Q q
    unfold asInt?
    exact wpAny_bind (wpAny_load hx (wpAny_pure q))
  unfold Builtin.«int.__add__»
  wp_walk using hl
  exact h
theorem int_add_ref {i : Int} {t : Tok} {x C dx : Addr} {s : Shared} {Q : Value → Shared → Prop} (hx : s.heap.get? x = some (instObj C dx)) (h : Q .notImplemented s) :
    wpAny (model prog w) A (call (.builtin "int.__add__") [.int i t, .ref x]) Q E s :=
  call_givesAt F.slot_int_add (typeIs_int s i t) F.entry_int_add (F.args_int_add_2 _ _) add_ref_at hx h
theorem int_add_own {i : Int} {t : Tok} {x C dx f fa : Addr} {cd : ClassData} {rest : List Value} {Q : Value → Shared → Prop} (X : K.In s.heap) (hx : s.heap.get? x = some (instObj C dx)) (I : InstAt s.heap x ox C od) (hcd : clsIn K C = some cd) (hm : cd.mro = .ref C :: rest)
    (ha : findIn K (.ref C) (PySem.dunder "add") = some (some (.ref fa))) (hs : findIn K (.ref C) (dunderR "add") = some (some (.ref f))) (hf : isFn K (.ref f) = true) (hsub : subIn K (.ref C) (.type "int") = some false)
    (h : wpAny (model prog w) A (call (.ref f) [.ref x, .int i t]) (PySem.W.CmpBack Q) E s) : wpAny (model prog w) A (binaryOp .Add (.int i t) (.ref x)) Q E s := by
  have one := ksp_try X I hs hf h
  have two : ∀ {Q' : Option Value → Shared → Prop}, Q' none s → wpAny (model prog w) A (tryMethod (.int i t) (PySem.dunder "add") (.ref x)) Q' E s := by
    intro Q' q
    unfold tryMethod
    exact wpAny_bind (wpAny_callSpecial?_slot (typeIs_int s i t) F.slot_int_add (int_add_ref hx (wpAny_pure q)))
  obtain ⟨hh, g, d, tt, os⟩ := s
  have L1 : Looks (model prog w) hh (typeOf (.int i t)) (.type "int") := Looks.of_pure rfl
  have L2 : Looks (model prog w) hh (typeOf (.ref x)) (.ref C) := I.type
  have L3 : Looks (model prog w) hh (fillsNumberSlot (.type "int") "add") true := Looks.of_pure F.fills_int_add
  have L4 : Looks (model prog w) hh (fillsNumberSlot (.ref C) "add") true := fills_K X hcd hm ha
  have L5 : Looks (model prog w) hh (isSubtype (.ref C) (.type "int")) false := looks_subIn X hsub
  have L7 : Looks (model prog w) hh (numberSlotInPython (.type "int") "add") false := Looks.of_pure rfl
  have hne : (Value.type "int" == Value.ref C) = false := Bool.eq_false_iff.mpr fun q => by cases beq_iff_eq.mp q
  show wpAny (model prog w) A (binaryOp .Add (.int i t) (.ref x)) Q E _
  have hi : Operator.info .Add = ("+", "add") := rfl
  simp only [binaryOp, hi]
  refine wpAny_holding (wpAny_bind ?_)
  unfold binaryOp1
  refine wpAny_bind (L1.at (wpAny_bind (L2.at (wpAny_bind (L3.at ?_)))))
  simp only [hne, Bool.false_eq_true, if_false]
  ksp_lk
  refine two ?_
  ksp_lk
  refine wpAny_mono one (fun r s' hr' => ?_) fun _ _ e => e
  obtain ⟨v, rfl, hq⟩ := hr'
  ksp_lk
  exact hq
end
end Ow
end
section
set_option maxHeartbeats 4000000
namespace Ow
open PySem PySem.Spec PyProof.Rows L2 PySem.W

section
variable {prog : Program} {w : World} {M : Model} {A : Around} {E : Value → Shared → Prop} {s : Shared} {K : Frag} {x C L f : Addr} {h₀ : Heap} {m : Str → Option Value} {ox : Obj} {od : Option Obj} {nm T : String}
/-- no += of one's own: C over object alone -/
theorem noI_own {h : Heap} {cd : ClassData} {add : Bool} (X : K.In h) (hc : clsIn K C = some cd) (hm : cd.mro = [.ref C, .type "object"]) (hs : findIn K (.ref C) (dunderI nm) = some none)
    (ho : typeLookup (.type "object") (dunderI nm) = pure none) : Looks M h (fillsInplaceSlot (.ref C) nm add) false := by
  intro A Q E s k q
  have Lm : Looks M h (mroOf (.ref C)) cd.mro := (looks_clsIn X hc).andThen (f := fun cd => pure cd.mro) .now
  have Lm' := Lm.keeps k
  obtain ⟨hh, g, d, tt, os⟩ := s
  have X' : K.In hh := X.keeps k
  have L1 : Looks M hh (typeLookup (.ref C) (dunderI nm)) none := looks_findIn X' hs
  have L2 : Looks M hh (typeLookup (.type "object") (dunderI nm)) none := Looks.of_pure ho
  unfold fillsInplaceSlot
  refine wpAny_bind (Lm'.at ?_)
  rw [hm, List.anyM_cons]
  refine wpAny_bind (wpAny_bind (L1.at ?_))
  refine wpAny_pure ?_
  simp only [Bool.false_eq_true, if_false]
  rw [List.anyM_cons]
  refine wpAny_bind (wpAny_bind (L2.at ?_))
  refine wpAny_pure ?_
  simp only [Bool.false_eq_true, if_false]
  exact wpAny_pure q

theorem iadd_own {op : Operator} {b : Value} {cd : ClassData} {fo ro rc : Option Value} {Q : Value → Shared → Prop} (X : K.In s.heap) (I : InstAt s.heap x ox C od) (hb : typeOf b = pure (.type T)) (hcd : clsIn K C = some cd) (hm : cd.mro = [.ref C, .type "object"])
    (hni : findIn K (.ref C) (dunderI op.info.2) = some none) (hno : typeLookup (.type "object") (dunderI op.info.2) = pure none)
    (hs : findIn K (.ref C) (PySem.dunder op.info.2) = some (some (.ref f))) (hf : isFn K (.ref f) = true) (hr : findIn K (.ref C) (dunderR op.info.2) = some rc) (hp : rc = none ∨ ∃ g : Addr, rc = some (.ref g))
    (h1 : findIn K (.type T) (PySem.dunder op.info.2) = some fo) (h2 : findIn K (.type T) (dunderR op.info.2) = some ro) (hsub : subIn K (.type T) (.ref C) = some false)
    (h : wpAny (model prog w) A (call (.ref f) [.ref x, b]) (PySem.W.CmpBack Q) E s) : wpAny (model prog w) A (inplaceOp op (.ref x) b) Q E s := by
  rcases hi : op.info with ⟨sym, nm'⟩
  rw [hi] at hs hr h1 h2 hni hno
  dsimp only at hs hr h1 h2 hni hno
  have one := ksp_try X I hs hf h
  obtain ⟨hh, g, d, tt, os⟩ := s
  have L0 : Looks (model prog w) hh (fillsInplaceSlot (.ref C) nm' (op == .Add)) false := noI_own X hcd hm hni hno
  have L1 : Looks (model prog w) hh (typeOf (.ref x)) (.ref C) := I.type
  have L2 : Looks (model prog w) hh (typeOf b) (.type T) := Looks.of_pure hb
  have L3 : Looks (model prog w) hh (fillsNumberSlot (.ref C) nm') true := fills_K X hcd hm hs
  have L4 : Looks (model prog w) hh (fillsNumberSlot (.type T) nm') ((fo.isSome && !isSeqSlot fo) || (ro.isSome && !isSeqSlot ro)) := ksp_fillsT X h1 h2
  have L5 : Looks (model prog w) hh (isSubtype (.type T) (.ref C)) false := looks_subIn X hsub
  have L6 : Looks (model prog w) hh (numberSlotInPython (.ref C) nm') true := ksp_inPy X hs hr hp
  have L7 : Looks (model prog w) hh (numberSlotInPython (.type T) nm') false := Looks.of_pure rfl
  have L8 : Looks (model prog w) hh (typeLookup (.type T) (dunderR nm')) ro := looks_findIn X h2
  generalize ((fo.isSome && !isSeqSlot fo) || (ro.isSome && !isSeqSlot ro)) = right at L4
  have hne : (Value.ref C == Value.type T) = false := Bool.eq_false_iff.mpr fun q => by cases beq_iff_eq.mp q
  unfold inplaceOp
  simp only [hi]
  refine wpAny_holding (wpAny_bind (L1.at (wpAny_bind (L0.at ?_))))
  simp only [Bool.false_eq_true, if_false]
  refine wpAny_bind ?_
  unfold binaryOp1
  refine wpAny_bind (L1.at (wpAny_bind (L2.at (wpAny_bind (L3.at ?_)))))
  simp only [hne, Bool.false_eq_true, if_false]
  cases right with
  | false =>
    ksp_lk
    refine wpAny_mono one (fun r s' hr' => ?_) fun _ _ e => e
    obtain ⟨v, rfl, hq⟩ := hr'
    ksp_lk
    exact hq
  | true =>
    ksp_lk
    refine wpAny_mono one (fun r s' hr' => ?_) fun _ _ e => e
    obtain ⟨v, rfl, hq⟩ := hr'
    ksp_lk
    exact hq
end
end Ow
end
section
set_option maxHeartbeats 4000000
namespace Ow
open PySem PySem.Spec PyProof.Rows L2 PySem.W

section
variable {prog : Program} {w : World} {M : Model} {A : Around} {E : Value → Shared → Prop} {s : Shared} {K : Frag} {x y C L f : Addr} {ox oy : Obj} {od od' : Option Obj}

theorem objNe_K {Q : PySem.Fin → Shared → Prop} (X : K.In s.heap) (I : InstAt s.heap x ox C od) (hs : findIn K (.ref C) "__eq__" = some (some (.ref f))) (hf : isFn K (.ref f) = true) (hu : A.units < cLine)
    (hcall : wpAny (model prog w) A (call (.ref f) [.ref x, .ref y]) (fun v s' => ∃ b, v = .bool b ∧ Q (.done (.ret (.bool (!b)))) s') E s) :
    wpAny (model prog w) A (Builtin.«object.__ne__» ⟨[.ref x, .ref y], []⟩) Q E s := by
  unfold Builtin.«object.__ne__»
  repeat (first
    | with_reducible refine wpAny_cRoomFor hu ?_
    | (refine wpAny_bind (m := callSpecialIfBound? (.ref x) (Str.ofString "__eq__") [.ref y])
        (ifBound_K X I hs hf (wpAny_mono hcall (fun r s' hr => by
          obtain ⟨b, rfl, hq⟩ := hr
          repeat (first | exact hq | exact wpAny_pure hq | exact wpAny_truthy_bool hq | (refine wpAny_bind (m := truthy (.bool _)) (wpAny_truthy_bool ?_)) | wp_step)) fun _ _ e => e)))
    | wp_step)

theorem check_K {id owner n : String} {rest : List Value} {Q : Unit → Shared → Prop} (X : K.In s.heap) (I : InstAt s.heap x ox C od) (hk : builtinKind id = some .slot) (hs : splitId id = some (owner, n))
    (ha : argsOk id ⟨.ref x :: rest, []⟩) (hob : subIn K (.ref C) (.type owner) = some true) (hq : Q () s) :
    wpAny M A (checkBuiltinCall id ⟨.ref x :: rest, []⟩) Q E s := by
  obtain ⟨h, g, d, t, os⟩ := s
  have Ls : Looks M h (isSubtype (.ref C) (.type owner)) true := looks_subIn X hob
  have hx := I.at_
  have hc := I.cls
  have X0 := X
  simp only [checkBuiltinCall, hk, hs]
  refine wpAny_bind ?_
  unfold isInstance
  repeat (first | (with_reducible refine wpAny_loadPart_at hx ?_; rw [hc]) | (with_reducible refine Ls.here ?_) | wp_step)
  cases hsig : Manifest.signature? id with
  | none => exact wpAny_pure hq
  | some sig =>
    simp only [argsOk, hsig] at ha
    have h2 : Bind.checkArgs id sig ⟨.ref x :: rest, []⟩ = pure () := ha
    show wpAny M A (Bind.checkArgs id sig ⟨.ref x :: rest, []⟩) Q E _
    rw [h2]; exact wpAny_pure hq

theorem ne_own {Q : Value → Shared → Prop} (hu : A.units + 1 < cLine) (X : K.In s.heap) (I : InstAt s.heap x ox C od) (J : InstAt s.heap y oy C od') (hne : findIn K (.ref C) "__ne__" = some (some (.builtin "object.__ne__")))
    (hs : findIn K (.ref C) "__eq__" = some (some (.ref f))) (hf : isFn K (.ref f) = true) (hob : subIn K (.ref C) (.type "object") = some true)
    (hcall : wpAny (model prog w) A.in1 (call (.ref f) [.ref x, .ref y]) (fun v s' => ∃ b, v = .bool b ∧ Q (.bool (!b)) s') E s) :
    wpAny (model prog w) A (compareOp .NotEq (.ref x) (.ref y)) Q E s := by
  have S := F.cmp_object.ne
  have one : wpAny (model prog w) A (tryCompare (.ref x) "__ne__" (.ref y)) (fun r s' => ∃ v, r = some v ∧ Q v s') E s := by
    unfold tryCompare
    refine wpAny_bind ?_
    simp only [callSpecialIfBound?, bindSpecialIfBound?]
    refine wpAny_holding (wpAny_bind (wpAny_bind (wpAny_bind (I.type.here ((looks_findIn X hne).here ?_)))))
    simp only [S.bind]
    have fin : ∀ {R : Option Value → Shared → Prop}, (∀ b s', Q (.bool (!b)) s' → R (some (.bool (!b))) s') → wpAny (model prog w) A (call (.builtin "object.__ne__") ([.ref x] ++ [.ref y]) >>= fun v => pure (some v)) R E s := by
      intro R hR
      refine wpAny_bind (wpAny_call (codeAny_call_builtin S.plain F.cmpEntry_ne (check_K X I F.cmpKind_ne F.cmpSplit_ne (F.cmpArgs_ne _ _) hob (objNe_K (A := A.in1) X I hs hf hu (wpAny_mono hcall (fun v s' hv => ?_) fun _ _ e => e)))))
      obtain ⟨b, rfl, hq⟩ := hv
      exact ⟨b, rfl, wpAny_pure (hR b _ hq)⟩
    refine wpAny_bind (wpAny_askSetting (wpAny_ite ?_))
    split
    · exact wpAny_bind (wpAny_pure (wpAny_pure (fin fun b s' hq => wpAny_pure ⟨_, rfl, hq⟩)))
    · exact wpAny_tryCatch (wpAny_bind (wpAny_pure (wpAny_pure (fin fun b s' hq => wpAny_pure ⟨_, rfl, hq⟩))))
  show wpAny (model prog w) A (richCompare .NotEq (.ref x) (.ref y)) Q E s
  unfold richCompare
  simp only [oneThing_ref]
  refine wpAny_holding (wpAny_bind (wpAny_cRoomFor (Nat.lt_of_succ_lt hu) ?_))
  refine wpAny_bind (I.type.here (wpAny_bind (J.type.here ?_)))
  rw [show (Value.ref C != Value.ref C) = false from by simp]
  simp only [Bool.false_eq_true, if_false]
  refine wpAny_bind (wpAny_pure ?_)
  simp only [Bool.false_eq_true, if_false]
  refine wpAny_bind (wpAny_mono one (fun r s' z => ?_) fun _ _ e => e)
  obtain ⟨v, rfl, hq⟩ := z
  exact wpAny_pure hq
end

section
variable {X : Cx} {CX : CXT} {n : Nat} {C g : Addr} {sp : Sp} {E : XK}
/-- x != y, both instances of C, which has == alone -/
def rNeOwn (C : Addr) (sp : Sp) (E : XK) : R2 := fun x y H Q => ∃ a b, x = .ref a ∧ y = .ref b ∧ InsAt H a C ∧ InsAt H b C ∧ sp [x, y] H (fun v H' => ∃ k, v = .bl k ∧ Q (.bl (!k)) H') E
theorem op_ne_own (hne : PySem.W.findIn X.K (.ref C) "__ne__" = some (some (.builtin "object.__ne__"))) (hs : PySem.W.findIn X.K (.ref C) "__eq__" = some (some (.ref g))) (hf : PySem.W.isFn X.K (.ref g) = true) (hob : PySem.W.subIn X.K (.ref C) (.type "object") = some true)
    (F : FnR X.prog X.w X.K X.mg X.base CX n g sp) (hr : Room (n + 1) X.A) (hx : Passes CX X E) : OpR X (compareOp .NotEq) (rNeOwn C sp E) := by
  intro pins s σ H x y v u Q I rx ry h
  obtain ⟨a, b, rfl, rfl, ha, hb, q⟩ := h
  cases (show v = Value.ref a from rx)
  cases (show u = Value.ref b from ry)
  obtain ⟨ox, od, J⟩ := inst_of I ha
  obtain ⟨oy, od', J'⟩ := inst_of I hb
  have hu : X.A.units + 1 < cLine := hu_of hr
  refine ne_own hu I.kIn J J' hne hs hf hob ?_
  refine wpAny_call ?_
  refine codeAny_mono (F X.A.in1 X.stack s H [.ref a, .ref b] [.ref a, .ref b] _ E hr.in1 I.env0.in1 (.cons rfl (.cons rfl .nil)) q) fun r s' hq => ?_
  cases r with
  | error e => exact hx pins σ H s e s' I hq
  | ok fl =>
    cases fl with
    | ret u =>
      obtain ⟨v, H', I2, rv, k, ev, qq⟩ := I.after hq
      subst ev
      cases (show u = Value.bool k from rv)
      exact ⟨k, rfl, .bl (!k), H', I2, rfl, qq⟩
    | next => exact False.elim hq
    | brk => exact False.elim hq
    | cont => exact False.elim hq
end
end Ow
end
section
set_option maxHeartbeats 4000000
namespace Ow
open PySem PySem.Spec PyProof.Rows L2 StX

section
variable {X : Cx} {CX : CXT} {n : Nat} {C g fa : Addr} {sp : Sp} {E : XK}

theorem inst_of2 {pins : List (Addr × Obj)} {σ : L2.St} {H : Hp} {s : Shared} {a : Addr} (I : Inv X pins σ H s) (h : InsAt H a C) : ∃ dx od, s.heap.get? a = some (PySem.W.instObj C dx) ∧ PySem.W.InstAt s.heap a (PySem.W.instObj C dx) C od := by
  obtain ⟨dx, fs, ea⟩ := h
  obtain ⟨mA, O, _⟩ := ins_get I.hok ea
  obtain ⟨od, J, _⟩ := O.look
  exact ⟨dx, _, J.at_, J⟩

/-- n + x: the instance's __radd__ -/
def rBinR (C : Addr) (sp : Sp) (E : XK) : R2 := fun x y H Q => ∃ a i, x = .int i ∧ y = .ref a ∧ InsAt H a C ∧ sp [y, x] H Q E
theorem op_radd (hc : PySem.W.selfFirst X.K C = true) (ha : PySem.W.findIn X.K (.ref C) (PySem.dunder "add") = some (some (.ref fa))) (hs : PySem.W.findIn X.K (.ref C) (dunderR "add") = some (some (.ref g))) (hf : PySem.W.isFn X.K (.ref g) = true)
    (hsub : PySem.W.subIn X.K (.ref C) (.type "int") = some false)
    (F : FnR X.prog X.w X.K X.mg X.base CX n g sp) (hr : Room n X.A) (hx : Passes CX X E) : OpR X (binaryOp .Add) (rBinR C sp E) := by
  intro pins s σ H x y v u Q I rx ry h
  obtain ⟨a, i, rfl, rfl, hia, q⟩ := h
  obtain ⟨t, rfl⟩ := rx
  cases (show u = Value.ref a from ry)
  obtain ⟨dx, od, hx', J⟩ := inst_of2 I hia
  obtain ⟨cd, rest, hcd, hm⟩ := PySem.W.ksp_first hc
  refine int_add_own I.kIn hx' J hcd hm ha hs hf hsub ?_
  refine wpAny_mono (wpAny_call (run_fnR (us := [.ref a, .int i t]) (vs := [.ref a, .int i]) F hr hx I (.cons rfl (.cons ⟨t, rfl⟩ .nil)) q)) (fun w s' z => ?_) fun _ _ x => x
  obtain ⟨z', H', I', rz, qz⟩ := z
  exact cmpbackR rz ⟨z', H', I', rz, qz⟩

def mro2 (K : PySem.W.Frag) (C : Addr) : Bool := (PySem.W.clsIn K C).any fun cd => cd.mro == [.ref C, .type "object"]
theorem mro2_of {K : PySem.W.Frag} {C : Addr} (h : mro2 K C = true) : ∃ cd, PySem.W.clsIn K C = some cd ∧ cd.mro = [.ref C, .type "object"] := by
  obtain ⟨cd, hcd, hm⟩ := PySem.W.any_some h
  exact ⟨cd, hcd, beq_iff_eq.mp hm⟩
theorem noI_obj_add : typeLookup (.type "object") (dunderI "add") = pure none := by rw [typeLookup_type, builtinLookup_eq_fast]; kernel_rfl
/-- x += n, the class has no __iadd__ -/
theorem iop_addI {fo ro rc : Option Value} (hc : mro2 X.K C = true) (hni : PySem.W.findIn X.K (.ref C) (dunderI "add") = some none) (hs : PySem.W.findIn X.K (.ref C) (PySem.dunder "add") = some (some (.ref g))) (hf : PySem.W.isFn X.K (.ref g) = true)
    (hrr : PySem.W.findIn X.K (.ref C) (dunderR "add") = some rc) (hp : rc = none ∨ ∃ g : Addr, rc = some (.ref g))
    (h1 : PySem.W.findIn X.K (.type "int") (PySem.dunder "add") = some fo) (h2 : PySem.W.findIn X.K (.type "int") (dunderR "add") = some ro) (hsub : PySem.W.subIn X.K (.type "int") (.ref C) = some false)
    (F : FnR X.prog X.w X.K X.mg X.base CX n g sp) (hr : Room n X.A) (hx : Passes CX X E) : OpR X (inplaceOp .Add) (rBinI C sp E) := by
  intro pins s σ H x y v u Q I rx ry h
  obtain ⟨a, i, rfl, rfl, hia, q⟩ := h
  cases (show v = Value.ref a from rx)
  obtain ⟨t, rfl⟩ := ry
  obtain ⟨ox, od, J⟩ := inst_of I hia
  obtain ⟨cd, hcd, hm⟩ := mro2_of hc
  refine iadd_own (op := .Add) (T := "int") I.kIn J rfl hcd hm hni noI_obj_add hs hf hrr hp h1 h2 hsub ?_
  refine wpAny_mono (wpAny_call (run_fnR (us := [.ref a, .int i t]) (vs := [.ref a, .int i]) F hr hx I (.cons rfl (.cons ⟨t, rfl⟩ .nil)) q)) (fun w s' z => ?_) fun _ _ x => x
  obtain ⟨z', H', I', rz, qz⟩ := z
  exact cmpbackR rz ⟨z', H', I', rz, qz⟩

/-- f(e, ..), a def of the module, by its positional promise -/
def tCallR (sp : Sp) (E : XK) (t : TA) : TE := fun σ H Q => t σ H fun vs H1 => sp vs H1 Q E
theorem pe_callR {x : Str} {f : Addr} {e : Expr} {es : List Expr} {t : TA} {p pos : Pos} (F : FnR X.prog X.w X.K X.mg X.base CX n f sp) (hr : Room n X.A) (hm : X.mg x = some (.ref f)) (hk : PySem.W.keepIn X.K (.ref f) = true) (hx : Passes CX X E)
    (ha : PA X (e :: es) t) (hg : Gl X x := by rfl) (hdb : (x == ("__debug__" : Str)) = false := by decide) (he : starEach (e :: es) X.env = (false, eval e X.env) :: starEach es X.env := by rfl) (hpl : (backTo pos (starEach es X.env)).any (·.1) = false := by rfl) :
    PE X (.Call (.Name x p) (e :: es) [] pos) (tCallR sp E t) := by
  refine ⟨fun pins s σ H Q I h => ?_⟩
  refine wpAny_Call_Name_kw (ld_glob I hg hm ?_ hdb)
  refine PySem.W.callWith_K (h₀ := X.base) I.ok.mod.kin hk (thn (ha.run pos pins s σ H _ I h) fun us s1 ⟨vs, H1, I1, r, q⟩ => ⟨I1.kIn, ?_⟩) he hpl
  exact wpAny_call (run_fnR F hr hx I1 r q)

/-- C(e, ..): a new instance, by the positional promise of __init__ -/
theorem pe_makeRR {x : Str} {e : Expr} {es : List Expr} {t : TA} {p pos : Pos} (M : Mk X.K C g) (F : FnR X.prog X.w X.K X.mg X.base CX n g sp) (hr : Room (n + 1) X.A) (hm : X.mg x = some (.ref C)) (hx : Passes CX X E) (ha : PA X (e :: es) t) (hg : Gl X x := by rfl) (hdb : (x == ("__debug__" : Str)) = false := by decide)
    (he : starEach (e :: es) X.env = (false, eval e X.env) :: starEach es X.env := by rfl) (hpl : (backTo pos (starEach es X.env)).any (·.1) = false := by rfl) : PE X (.Call (.Name x p) (e :: es) [] pos) (tMakeR C sp E t) :=
  pe_makeR M F hr hg hm hx ha hdb he hpl
end
end Ow
end
section
set_option maxHeartbeats 4000000
namespace Ow
open PySem PySem.Spec PyProof.Rows L2 StX

/-- what the walk asks of an own class -/
structure ClsF (K : PySem.W.Frag) (C : Addr) : Prop where
  cl : Cls K C
  ca : PySem.W.findIn K (.ref C) "__class__" = some (some (.builtin "object.__class__"))
  cn : PySem.W.specialIn K (.builtin "object.__class__") "__get__" = some (some (.builtin "getset_descriptor.__get__"))
  ct : PySem.W.takesIn K (.builtin "object.__class__") = some true
  cm : PySem.W.mroIn K C (.type "object") = some true
  ic : PySem.W.isClsIn K C = true
  ty : PySem.W.typeIn K (.ref C) = some (.type "type")
theorem ClsF.tyOf {K : PySem.W.Frag} {C p dx : Addr} {H : Hp} {fs : List (Str × V)} (c : ClsF K C) (h : H p = some (.ins C dx fs)) : TyX K H (.ref p) (.ref C) := .base (.ins h c.cl c.ca c.cn c.ct c.cm)
theorem kit_self {K : PySem.W.Frag} {t : Value} : PySem.W.kitOne K t t = some true := by
  unfold PySem.W.kitOne
  rw [if_pos (beq_self_eq_true t)]
/-- t is not below the own class at C -/
theorem kit_own {K : PySem.W.Frag} {C : Addr} {t : Value} {b : Bool} (c : ClsF K C) (h : PySem.W.subIn K t (.ref C) = some b) (hb : (t == Value.ref C) = false) : PySem.W.kitOne K t (.ref C) = some b := by
  unfold PySem.W.kitOne
  rw [if_neg (by rw [hb]; exact Bool.false_ne_true)]
  show (if ((PySem.W.clsIn K C).isSome && PySem.W.typeIn K (.ref C) == some (.type "type")) = true then PySem.W.subIn K t (.ref C) else none) = some b
  have h1 : (PySem.W.clsIn K C).isSome = true := c.ic
  rw [h1, c.ty]
  rw [if_pos (by rfl)]
  exact h
/-- an instance of C against a built-in type -/
theorem kit_bty {K : PySem.W.Frag} {C : Addr} {T : String} {b : Bool} (hm : PySem.W.kitMeta T = true) (h : PySem.W.subIn K (.ref C) (.type T) = some b) : PySem.W.kitOne K (.ref C) (.type T) = some b := by
  unfold PySem.W.kitOne
  rw [if_neg (by intro z; cases beq_iff_eq.mp z)]
  show (if PySem.W.kitMeta T = true then PySem.W.subIn K (.ref C) (.type T) else none) = some b
  rw [if_pos hm]
  exact h
theorem kit_int_int {K : PySem.W.Frag} : PySem.W.kitOne K (.type "int") (.type "int") = some true := kit_self
theorem kit_int_bool {K : PySem.W.Frag} : PySem.W.kitOne K (.type "int") (.type "bool") = some false := kit_ty (by decide +kernel)

section
variable {X : Cx} {CX : CXT} {k : Nat} {C p g a dx : Addr} {fs : List (Str × V)} {f : Str} {sp : Sp} {E : XK} {e : Expr} {pos : Pos} {ta : TE}
structure PropR (K : PySem.W.Frag) (C : Addr) (f : Str) (p g : Addr) : Prop where
  at_ : PySem.W.findIn K (.ref C) f = some (some (.ref p))
  get : PySem.W.specialIn K (.ref p) "__get__" = some (some (.builtin "property.__get__"))
  tak : PySem.W.takesIn K (.ref p) = some true
  rec_ : ∃ rest, PySem.W.recIn K p "property" = some (.ref g :: rest)
theorem getprop_R {pins : List (Addr × Obj)} {σ : L2.St} {H : Hp} {s : Shared} {Q : VK} {b : Bool} (I : Inv X pins σ H s) (ea : H a = some (.ins C dx fs)) (c : Cls X.K C) (hp : PropR X.K C f p g)
    (F : FnR X.prog X.w X.K X.mg X.base CX k g sp) (hr : Room (k + 1) X.A) (hx : Passes CX X.nox E) (h : sp [.ref a] H Q E) :
    wpAny (model X.prog X.w) X.A (getAttr (.ref a) f b) (EP X pins σ Q) X.xe s := by
  obtain ⟨mA, O, _, _, _, _⟩ := ins_get I.hok ea
  obtain ⟨od, J, _⟩ := O.look
  obtain ⟨rest, hrec⟩ := hp.rec_
  have I1 := I.tok (s.toks + 1)
  have hc : (PySem.W.clsIn X.K C).isSome = true := by
    obtain ⟨cd, hc, _⟩ := PySem.W.any_some c.hd
    rw [hc]
    rfl
  refine PySem.W.get_bind I.kIn J (PySem.W.plainGet_of (c.get f)).1 (PySem.W.findObj_data hc hp.at_ hp.get hp.tak) (PySem.W.plainGet_of (c.get f)).2 (wpAny_call (PySem.W.prop_get (s := { s with toks := s.toks + 1 }) I.kIn hrec ?_))
  refine codeAny_mono (F X.A.in1 X.stack { s with toks := s.toks + 1 } H [.ref a] [.ref a] Q E hr.in1 I1.env0.in1 (.cons rfl .nil) h) fun r s' hq => ?_
  cases r with
  | error er => exact False.elim (hx pins σ H { s with toks := s.toks + 1 } er s' (I1.wish _) hq)
  | ok fl =>
    cases fl with
    | ret u =>
      obtain ⟨v, H', I3, rv, q3⟩ := I1.after hq
      show wpAny _ _ (handedOut u) _ _ _
      rw [PySem.W.handedOut_of (handed_of rv)]
      exact wpAny_pure ⟨v, H', I3, rv, q3⟩
    | next => exact False.elim hq
    | brk => exact False.elim hq
    | cont => exact False.elim hq
def tPropR (C : Addr) (sp : Sp) (E : XK) (ta : TE) : TE := fun σ H Q => ta σ H fun x H1 => ∃ a dx fs, x = .ref a ∧ H1 a = some (.ins C dx fs) ∧ sp [.ref a] H1 Q E
/-- e.f, f a property -/
theorem pe_propR (he : PE X e ta) (c : Cls X.K C) (hp : PropR X.K C f p g) (F : FnR X.prog X.w X.K X.mg X.base CX k g sp) (hr : Room (k + 1) X.A) (hx : Passes CX X.nox E)
    (hab : attributeBase e f X.env (eval e X.env) = eval e X.env := by rfl) : PE X (.Attribute e f pos) (tPropR C sp E ta) := by
  refine ⟨fun pins s σ H Q I h => ?_⟩
  refine attr_of hab (thn (he.run pins s σ H _ I h) fun u s1 ⟨x, H1, I1, rx, a, dx, fs, ex, ea, q⟩ => ?_)
  subst ex
  obtain rfl : u = Value.ref a := rx
  exact getprop_R I1 ea c hp F hr hx q
end

/-- a def of the text, as the top left it: dvs its defaults -/
def FnT (K : PySem.W.Frag) (x qual : Str) (st : Stmt) (dvs : List V) (f : Addr) : Prop := ∃ fd, FunD K x qual (defArgs st) (defBody st) (defScope st) dvs [] f fd
section
variable {P : Program} {w : World} {K : PySem.W.Frag} {mg : Str → Option Value} {base : Heap} {x qual : Str} {st : Stmt} {dvs : List V} {f : Addr}
theorem FnT.kp (F : FnT K x qual st dvs f) : PySem.W.keepIn K (.ref f) = true := F.elim fun _ z => z.kp
/-- a def without defaults that lets nothing out -/
theorem FnT.ok {N ps : List Str} {k : Nat} {sp : Sp} (F : FnT K x qual st [] f) (S : FnScope N ps (defScope st))
    (hb : ∀ (kV doc pm : Value) (an : Option Addr) (cdv ct : Value) (us : List Value), us.length = ps.length → bindArgs (PySem.W.fnOf x qual (defArgs st) (defBody st) (defScope st) .none kV doc pm an cdv ct) ⟨us, []⟩ = pure (ps.zip us))
    (len : ∀ vs H Q E, sp vs H Q E → vs.length = ps.length)
    (hbody : ∀ (cdv : Value) (A : Around) (outer : List Env) (s : Shared) (H : Hp) (vs : List V) (Q : VK) (E : XK), Room k (A.deeper (envOfC qual (defScope st) s.heap.objs.size f cdv)) → sp vs H Q E →
      ∃ t, PSs (cxOf CX0 P w K mg base N qual (defScope st) f cdv A outer s H E).nox (defBody st) t ∧ t { nx := fun _ H' => Q .non H', rt := Q } (start N vs) H) : FnR P w K mg base CX0 (k + 1) f sp := by
  obtain ⟨fd, F⟩ := F
  have ok : FnOk P w K mg base CX0 (k + 1) f fd ps sp := F.ok S len fun cdv A outer s H vs Q E hr hsp => by
    obtain ⟨t, h, q⟩ := hbody cdv A outer s H vs Q E hr hsp
    exact ⟨t, h.nox, q⟩
  have b : Binds K fd ps [] := F.bindsN hb
  have r := ok.raw b .nil
  exact r.imp fun vs H Q E h => by rw [List.append_nil]; exact h
/-- .. with defaults, all of its arguments told; or the last ones filled up: j of the defaults are not used -/
theorem FnT.okD {N ps : List Str} {k n j : Nat} {sp : Sp} (F : FnT K x qual st dvs f) (S : FnScope N ps (defScope st)) (hd : dvs ≠ []) (hn : n + (dvs.length - j) = ps.length)
    (hb : ∀ (T : Addr) (kV doc pm : Value) (an : Option Addr) (cdv ct : Value) (us its : List Value), us.length = n → its.length = dvs.length →
      ∃ k, bindArgs (PySem.W.fnOf x qual (defArgs st) (defBody st) (defScope st) (.ref T) kV doc pm an cdv ct) ⟨us, []⟩ = seqItems? (.ref T) >>= k ∧ k (some its.toArray) = pure (ps.zip (us ++ its.drop j)))
    (len : ∀ vs H Q E, sp vs H Q E → vs.length = ps.length)
    (hbody : ∀ (cdv : Value) (A : Around) (outer : List Env) (s : Shared) (H : Hp) (vs : List V) (Q : VK) (E : XK), Room k (A.deeper (envOfC qual (defScope st) s.heap.objs.size f cdv)) → sp vs H Q E →
      ∃ t, PSs (cxOf CX0 P w K mg base N qual (defScope st) f cdv A outer s H E).nox (defBody st) t ∧ t { nx := fun _ H' => Q .non H', rt := Q } (start N vs) H) : FnR P w K mg base CX0 (k + 1) f (fun vs H Q E => sp (vs ++ dvs.drop j) H Q E) := by
  obtain ⟨fd, F⟩ := F
  have ok : FnOk P w K mg base CX0 (k + 1) f fd ps sp := F.ok S len fun cdv A outer s H vs Q E hr hsp => by
    obtain ⟨t, h, q⟩ := hbody cdv A outer s H vs Q E hr hsp
    exact ⟨t, h.nox, q⟩
  obtain ⟨ds, hds, b⟩ := F.binds1 n j hd hn hb
  exact ok.raw b hds
end
end Ow
end
section
set_option maxHeartbeats 4000000
namespace Ow
open PySem PySem.SeqAt
open AutoSeq1 (wpAny_loadPart')
open MeetsSeq MeetsSeq2 MeetsSeq3 SeqRoads2

section
variable {prog : Program} {w : World} {A : Around} {R : Result → Shared → Prop}
theorem ne_loopG (l b : Addr) (N : Nat) (I : Nat → Shared → Prop) (hl : GQ.ListI prog w A (fun e s' => R (.error e) s') l b N I)
    (fin : ∀ s, I N s → R (.ok (.ret (.bool false))) s) (k : Nat) :
    ∀ i : Nat, N - i = k → i ≤ N → ∀ s, I i s →
      wpAny (model prog w) A.in1 (Builtin.«list.__eq__.loop» ⟨[.ref l, .ref b, rawInt i, rawInt 3], []⟩) (GQ.FinOf prog w A R) (fun e s' => R (.error e) s') s := by
  induction k with
  | zero =>
    intro i hk hi s h
    obtain ⟨items, items2, n, n2, hl1, hb1, hs1, hs2, _⟩ := hl _ _ h
    have hi' : i = N := by omega
    have hR : R (.ok (.ret (.bool false))) s := fin s (hi' ▸ h)
    obtain ⟨hp, g, d, tk, os⟩ := s
    wp_walk using wpAny_loadPart' hl1, wpAny_loadPart' hb1
    have hi1 : items[((i : Nat) : Int).toNat]? = none := by simp; omega
    have hi2 : items2[((i : Nat) : Int).toNat]? = none := by simp; omega
    rw [hi1, hi2]
    wp_walk using wpAny_loadPart' hl1, wpAny_loadPart' hb1
    show R (.ok (.ret (.bool (items.size != items2.size)))) _
    rw [hs1, hs2]
    simpa using hR
  | succ k ih =>
    intro i hk hi s h
    obtain ⟨items, items2, n, n2, hl1, hb1, hs1, hs2, turn⟩ := hl _ _ h
    have hlt : i < items.size := by omega
    have hlt2 : i < items2.size := by omega
    have ht := turn hlt hlt2
    obtain ⟨hp, g, d, tk, os⟩ := s
    wp_walk using wpAny_loadPart' hl1, wpAny_loadPart' hb1
    have hi1 : items[((i : Nat) : Int).toNat]? = some items[i] := by simp [hlt]
    have hi2 : items2[((i : Nat) : Int).toNat]? = some items2[i] := by simp [hlt2]
    have hc : ((i : Int) + 1) = ((i + 1 : Nat) : Int) := by omega
    rw [hi1, hi2]
    refine wpAny_bind (wpAny_mono ht (fun r s2 h2 => ?_) fun _ _ x => x)
    obtain ⟨hr, h2⟩ := h2
    subst hr
    have hrec := ih (i + 1) (by omega) (by omega) s2 h2
    obtain ⟨hp2, g2, d2, tk2, os2⟩ := s2
    wp_walk
    rw [hc]
    exact ⟨plainId_quiet plain_eq_loop _, codeAny_builtin entry_eq_loop (by
      rw [Around.under_plainId plain_eq_loop _]
      exact hrec)⟩

theorem list_neG (l b : Addr) (N : Nat) (I : Nat → Shared → Prop) (hl : GQ.ListI prog w A (fun e s' => R (.error e) s') l b N I)
    (fin : ∀ s, I N s → R (.ok (.ret (.bool false))) s) {s : Shared} (h : I 0 s) :
    wpAny (model prog w) A.in1 (Builtin.«list.__ne__» ⟨[.ref l, .ref b], []⟩) (GQ.FinOf prog w A R) (fun e s' => R (.error e) s') s := by
  obtain ⟨items, items2, n, n2, hl1, hb1, hs1, hs2, _⟩ := hl _ _ h
  have hrec := ne_loopG (A := A) (R := R) l b N I hl fin _ 0 rfl (Nat.zero_le _) s h
  obtain ⟨hp, g, d, tk, os⟩ := s
  have f3 := AutoSeq1.sub_list_list
  have hne : ¬ (items.size != items2.size) = true := by simp [hs1, hs2]
  wp_walk using wpAny_loadPart' hl1, wpAny_loadPart' hb1
  exact ⟨plainId_quiet plain_eq_loop _, codeAny_builtin entry_eq_loop (by
    rw [Around.under_plainId plain_eq_loop _]
    exact hrec)⟩
theorem rn_listG {E : Value → Shared → Prop} {s : Shared} {l b : Addr} {N : Nat} {Q : Value → Shared → Prop} (hu : A.units < cLine) (I : Nat → Shared → Prop) (hl : GQ.ListI prog w A E l b N I)
    (fin : ∀ s, I N s → Q (.bool false) s) (h : I 0 s) : wpAny (model prog w) A (richCompare .NotEq (.ref l) (.ref b)) Q E s := by
  obtain ⟨items, items2, n, n2, hl1, hb1, _, _, _⟩ := hl _ _ h
  refine wpAny_richCompare_same_room (op := .NotEq) ⟨_, hl1, rfl⟩ ⟨_, hb1, rfl⟩ F.slot_list_ne (GQ.call_here F.slot_list_ne ⟨_, hl1, rfl⟩ F.entry_list_ne (F.args_list_ne_2 _ _) ?_) hu
  exact list_neG (R := wants (fun v s' => v ≠ .notImplemented ∧ Q v s') E) l b N I hl (fun s' q => ⟨(fun x => nomatch x), fin s' q⟩) h
end
end Ow
namespace Ow
open PySem PySem.Spec PyProof.Rows L2 StX
section
variable {X : Cx} {n m : Nat} {D D' : Eqv}
/-- two lists, equal item by item: != gives False -/
def rNeL (D : Eqv) : R2 := fun x y H Q => DList D x y H ∧ ∀ H', Ext H H' → Q (.bl false) H'
theorem op_neL (hD : Mon D) (h : EqG X n D) (hr : Room (n + 1) X.A) : OpR X (compareOp .NotEq) (rNeL D) := by
  intro pins s σ H x y v u Q I rx ry hq
  obtain ⟨⟨a, b, xs, ys, rfl, rfl, ha, hb, p⟩, q⟩ := hq
  cases rx
  cases ry
  show wpAny (model X.prog X.w) X.A (richCompare .NotEq (.ref a) (.ref b)) (EP X pins σ Q) X.xe s
  have sb : Sub X (n + 1) X.A := ⟨hr, rfl⟩
  refine rn_listG (N := xs.length) hr.units0 (fun _ s' => LoopI X pins σ H s') (fun i s' q => ?_) (fun s' q' => ?_) ⟨H, I, Ext.rfl'⟩
  · obtain ⟨H1, I1, e1⟩ := id q
    obtain ⟨z, its, k, r, e⟩ := I1.hok a _ (e1 _ _ ha)
    obtain ⟨z2, its2, k2, r2, e2⟩ := I1.hok b _ (e1 _ _ hb)
    refine ⟨its.toArray, its2.toArray, k, k2, e, e2, by rw [List.size_toArray, ← r.length], by rw [List.size_toArray, ← r2.length, ← p.1], fun h1 h2 => ?_⟩
    exact turnG hD h sb p r r2 i h1 h2 s' q
  · obtain ⟨H1, I1, e1⟩ := q'
    exact ⟨.bl false, H1, I1, rfl, q H1 e1⟩
/-- instances of C by their own ==, a positional promise -/
theorem eqG_insR {CX : CXT} {C f : Addr} {R : Addr → Addr → Hp → Prop} {E : XK} (F : FnR X.prog X.w X.K X.mg X.base CX n f (spEq R))
    (hs : PySem.W.findIn X.K (.ref C) "__eq__" = some (some (.ref f))) (hf : PySem.W.isFn X.K (.ref f) = true) (hx : Passes CX X E) : EqG X n (DIns C R) := by
  have rc : RcG X n (DIns C R) := by
    intro A pins s σ H x y u v sb I rx ry d
    obtain ⟨a, b, dx, dy, fs, gs, rfl, rfl, ha, hb', hr⟩ := d
    cases rx
    cases ry
    obtain ⟨mA, J, _⟩ := ins_get I.hok ha
    obtain ⟨mB, J', _⟩ := ins_get I.hok hb'
    obtain ⟨od, J, _⟩ := J.look
    obtain ⟨od', J', _⟩ := J'.look
    obtain ⟨m, hF⟩ := I.fr
    refine PySem.W.cmp_K (op := .Eq) (tb := .ref C) sb.room.units0 hF I.ok.mod.kin J J'.type (by simp [PySem.W.notFirst]) hs hf ?_
    have hsp : spEq R [.ref a, .ref b] H (fun v H' => v = .bl true ∧ Ext H H') E := ⟨a, b, rfl, hr, fun H' e => ⟨rfl, e⟩⟩
    have e0 : Env0 X.prog X.w X.K X.mg X.base A X.stack s H := by
      have e := I.env0
      exact ⟨by rw [sb.fr]; exact e.frames, e.mod, e.bs, e.bsz, e.funs, e.frf, e.hok, e.bare⟩
    have r2 : Vals [V.ref a, V.ref b] [Value.ref a, Value.ref b] := .cons rfl (.cons rfl .nil)
    refine wpAny_call (codeAny_mono (F A X.stack s H [.ref a, .ref b] [.ref a, .ref b] _ E sb.room e0 r2 hsp) fun r s' hq => ?_)
    cases r with
    | error e => exact hx pins σ H s e s' I hq
    | ok fl =>
      cases fl with
      | ret w =>
        obtain ⟨z, H', I', rz, ez, ex⟩ := I.after hq
        subst ez
        cases rz
        exact ⟨rfl, H', I', ex⟩
      | next => exact False.elim hq
      | brk => exact False.elim hq
      | cont => exact False.elim hq
  exact rc.eqG fun _ _ _ d => let ⟨a, b, _, _, _, _, hx, hy, _⟩ := d; ⟨a, b, hx, hy⟩
end
end Ow
end
section
set_option maxHeartbeats 4000000
/-! Defs that are called while nothing is being shown (repr of containers asks it), and the end of a law whose def asks it. -/
namespace Ow
open PySem PySem.Spec PyProof.Rows L2 StX

/-- a promise by positional values, of calls while no repr runs -/
def FnG (P : Program) (w : World) (K : PySem.W.Frag) (mg : Str → Option Value) (base : Heap) (CX : CXT) (k : Nat) (f : Addr) (sp : Sp) : Prop :=
  ∀ (A : Around) (outer : List Env) (s : Shared) (H : Hp) (us : List Value) (vs : List V) (Q : VK) (E : XK), Room k A → A.guards = some [] → Env0 P w K mg base A outer s H → Vals vs us → sp vs H Q E →
    codeAny (model P w) A (.call (.ref f) ⟨us, []⟩) (CR CX outer P w H s Q E) s
section
variable {P : Program} {w : World} {K : PySem.W.Frag} {mg : Str → Option Value} {base : Heap} {CX : CXT} {j k : Nat} {f : Addr} {sp sp' : Sp} {x qual : Str} {st : Stmt}
theorem FnG.mono (F : FnG P w K mg base CX j f sp) (h : j ≤ k) : FnG P w K mg base CX k f sp := fun A outer s H us vs Q E hr => F A outer s H us vs Q E (hr.mono h)
theorem FnG.imp (F : FnG P w K mg base CX k f sp) (h : ∀ vs H Q E, sp' vs H Q E → sp vs H Q E) : FnG P w K mg base CX k f sp' := fun A outer s H us vs Q E hr g e0 r hs => F A outer s H us vs Q E hr g e0 r (h _ _ _ _ hs)
theorem FnT.okG {N ps : List Str} (F : FnT K x qual st [] f) (S : FnScope N ps (defScope st))
    (hb : ∀ (kV doc pm : Value) (an : Option Addr) (cdv ct : Value) (us : List Value), us.length = ps.length → bindArgs (PySem.W.fnOf x qual (defArgs st) (defBody st) (defScope st) .none kV doc pm an cdv ct) ⟨us, []⟩ = pure (ps.zip us))
    (len : ∀ vs H Q E, sp vs H Q E → vs.length = ps.length)
    (hbody : ∀ (cdv : Value) (A : Around) (outer : List Env) (s : Shared) (H : Hp) (vs : List V) (Q : VK) (E : XK), Room k (A.deeper (envOfC qual (defScope st) s.heap.objs.size f cdv)) → A.guards = some [] → sp vs H Q E →
      ∃ t, PSs (cxOf CX0 P w K mg base N qual (defScope st) f cdv A outer s H E).nox (defBody st) t ∧ t { nx := fun _ H' => Q .non H', rt := Q } (start N vs) H) : FnG P w K mg base CX0 (k + 1) f sp := by
  obtain ⟨fd, F⟩ := F
  intro A outer s H us vs Q E hr hg e0 r hs
  have b := F.bindsN hb
  obtain ⟨oc, od, dV, kV, doc, pm, an, cdv, ct, osl, rfl, lk, hcd, _, _⟩ := F.ex
  have hv := len _ _ _ _ hs
  have hu : us.length = ps.length := r.length.symm.trans hv
  have b1 : BindsTo s (PySem.W.fnOf x qual (defArgs st) (defBody st) (defScope st) dV kV doc pm an cdv ct) ⟨us, []⟩ (ps.zip us) := by
    have := b s us (e0.mod.kin.keeps fun b o e => (e0.bs b o e).1) (by rw [List.append_nil]; exact hu)
    rw [List.append_nil] at this
    exact this
  refine LamX.run_ofS lk hcd S hr e0 b1 r hv fun hr2 => ?_
  obtain ⟨t, h, q⟩ := hbody cdv A outer s H vs Q E hr2 hg hs
  exact ⟨t, h.nox, q⟩
end
section
variable {X : Cx} {CX : CXT} {n : Nat} {sp : Sp} {E : XK}
theorem pe_callG {x : Str} {f : Addr} {e : Expr} {es : List Expr} {t : TA} {p pos : Pos} (F : FnG X.prog X.w X.K X.mg X.base CX n f sp) (hr : Room n X.A) (gd : X.A.guards = some []) (hm : X.mg x = some (.ref f)) (hk : PySem.W.keepIn X.K (.ref f) = true) (hx : Passes CX X E)
    (ha : PA X (e :: es) t) (hg : Gl X x := by rfl) (hdb : (x == ("__debug__" : Str)) = false := by decide) (he : starEach (e :: es) X.env = (false, eval e X.env) :: starEach es X.env := by rfl) (hpl : (backTo pos (starEach es X.env)).any (·.1) = false := by rfl) :
    PE X (.Call (.Name x p) (e :: es) [] pos) (tCallR sp E t) := by
  refine ⟨fun pins s σ H Q I h => ?_⟩
  refine wpAny_Call_Name_kw (ld_glob I hg hm ?_ hdb)
  refine PySem.W.callWith_K (h₀ := X.base) I.ok.mod.kin hk (thn (ha.run pos pins s σ H _ I h) fun us s1 ⟨vs, H1, I1, r, q⟩ => ⟨I1.kIn, ?_⟩) he hpl
  refine wpAny_call (codeAny_mono (F X.A X.stack s1 H1 us vs Q E hr gd I1.env0 r q) fun r s' hq => ?_)
  cases r with
  | error e => exact hx pins σ H1 s1 e s' I1 hq
  | ok fl =>
    cases fl with
    | ret u => exact I1.after hq
    | next => exact False.elim hq
    | brk => exact False.elim hq
    | cont => exact False.elim hq

/-- repr of data: its text -/
def rReprD (K : PySem.W.Frag) : List V → Hp → VK → Prop := fun xs H Q => ∃ (x : V) (d : PyData), xs = [x] ∧ Dp K H x d ∧ d.showable = true ∧ d.hasDict = false ∧ d.depth ≤ 8 ∧ d.shown.length ≤ sizeLine ∧ Q (.str d.shown) H
theorem call_reprD (gd : X.A.guards = some []) (hu : X.A.units + 64 < cLine) : CallR X (.builtin "repr") (rReprD X.K) := by
  intro pins s σ H xs us Q I r h
  obtain ⟨x, d, rfl, hd, hs, hnd, hdp, hsz, q⟩ := h
  obtain ⟨u, rfl, ru⟩ := vals1 r
  have fin : ∀ (h' : Heap) (tk : Nat) (u : Tok), (∀ b o, s.heap.get? b = some o → h'.get? b = some o) → EP X pins σ Q (.str d.shown u) { s with heap := h', toks := tk } := fun h' tk u k => ⟨.str d.shown, H, I.kept (t' := tk) k, ⟨u, rfl⟩, q⟩
  cases hd with
  | non => cases ru; exact PySem.P.repr_of_none (fin s.heap _ _ fun _ _ e => e)
  | bl b => cases ru; exact PySem.P.repr_of_bool (by cases b <;> exact fin s.heap _ _ fun _ _ e => e)
  | int i =>
    obtain ⟨t, rfl⟩ := ru
    have hi : i.natAbs.log2 < 1920 := of_decide_eq_true hs
    exact PySem.P.repr_of_int hi (fin s.heap _ _ fun _ _ e => e)
  | str z => obtain ⟨t, rfl⟩ := ru; exact PySem.P.repr_of_str (fin s.heap _ _ fun _ _ e => e) hsz
  | @lst a zs ds hq ha =>
    cases ru
    obtain ⟨as, rd⟩ := Dp.reads I _ _ _ (.lst hq ha) rfl
    exact repr_of_reads' rd hs (PyData.noDict_hsm hnd) gd (by omega) (fun _ _ e => e) (fun h' u tk k => fin h' tk u k) hsz
  | @tup a zs ds hq ha =>
    cases ru
    obtain ⟨as, rd⟩ := Dp.reads I _ _ _ (.tup hq ha) rfl
    exact repr_of_reads' rd hs (PyData.noDict_hsm hnd) gd (by omega) (fun _ _ e => e) (fun h' u tk k => fin h' tk u k) hsz
end

/-! ### the end of a law whose def wants to know that nothing is being shown -/
section
variable {P : Program} {w : World} {K : PySem.W.Frag} {mg mb : Str → Option Value} {k : Nat} {fa a : Addr} {sp : Sp} {s1 : Shared} {vs : List Value} {ns : List Int}
/-- the call, from one abstract heap that tracks the script alone, or nothing -/
theorem end_from (KX : K.In s1.heap) (hns : s1.heap.Ns mainGlobals mg) (hb : s1.heap.Ns builtinsNs mb) (hbb : ∀ x : Str, x ≠ "__name__" → mb x = bootBuiltins x) (hlim : s1.heap.NoLimit) (hg : s1.gens = #[]) (hr : Room k callerA)
    (F : ∀ base : Heap, K.In base → base.Ns mainGlobals mg → FnG P w K mg base CX0 k fa sp) {H : Hp} (hO : Only H) (hok : HOk P w H s1.heap) (dom : ∀ b u, H b = some u → K.lookup b = none ∧ ∃ o items n, s1.heap.get? b = some o ∧ o.data = .seq items n)
    (hsp : sp [.ref a] H (fun v _ => v = .bl true) fun _ _ _ => False) :
    codeAny (model P w) callerA (.call (.ref fa) ⟨[.ref a], []⟩) (fun r s' => r = .ok (.ret (.bool true)) ∧ OldK s1.heap s'.heap ∧ s'.os = s1.os ∧ AllBare s'.gens) s1 := by
  let base := hidT s1.heap H
  have dicts : ∀ {b : Addr} {o : Obj} {es : Array DictEntry} {ep : Nat}, s1.heap.get? b = some o → o.data = .dict es ep → base.get? b = some o := fun {b o es ep} e d => by
    refine hidT_get e ?_
    cases q : H b with
    | none => rfl
    | some u =>
      obtain ⟨_, o2, items, n, e2, d2⟩ := dom b u q
      rw [e2] at e
      cases e
      rw [d2] at d
      cases d
  have names : ∀ {b : Addr} {m : Str → Option Value}, s1.heap.Ns b m → base.Ns b m := fun z => by
    obtain ⟨o, es, ep, e, d, r⟩ := z
    exact ⟨o, es, ep, dicts e d, d, r⟩
  have hK : K.In base := fun b o e => by
    refine hidT_get (KX b o e) ?_
    cases q : H b with
    | none => rfl
    | some u =>
      have z := (dom b u q).1
      rw [e] at z
      cases z
  have lim : base.NoLimit := by
    obtain ⟨m, h1, h2⟩ := hlim
    exact ⟨m, names h1, h2⟩
  have e0 : Env0 P w K mg base callerA [] s1 H :=
    { frames := rfl, mod := ⟨hK, names hns, ⟨mb, names hb, hbb⟩, lim⟩, bs := fun b o e => of_hidT e, bsz := Nat.le_of_eq (hidT_size _ _), funs := trivial, frf := fun b hb => (List.not_mem_nil hb).elim, hok := hok, bare := .of_eq hg }
  refine codeAny_mono (F base hK (names hns) callerA [] s1 H [.ref a] [.ref a] _ _ hr rfl e0 (.cons rfl .nil) hsp) fun r s' h => ?_
  cases r with
  | error e => exact False.elim h
  | ok fl =>
    cases fl with
    | ret u =>
      obtain ⟨v, H2, os, bare, un, ok2, rv, q⟩ := h
      subst q
      cases rv
      refine ⟨rfl, OldK.of_keep fun b o e => ?_, os, bare⟩
      cases q : H b with
      | none => exact un.keep b o e q (fun z => List.not_mem_nil z) (fun z => List.not_mem_nil z)
      | some u =>
        rcases hO b with z | ⟨ob, xs, z⟩
        · rw [q] at z
          cases z
        · have e1 := (hok b _ z).1
          have e2 := (ok2 b _ (un.frzs b ob _ z)).1
          rw [e] at e1
          cases e1
          exact e2
    | next => exact False.elim h
    | brk => exact False.elim h
    | cont => exact False.elim h
theorem end_callG (KX : K.In s1.heap) (hns : s1.heap.Ns mainGlobals mg) (hb : s1.heap.Ns builtinsNs mb) (hbb : ∀ x : Str, x ≠ "__name__" → mb x = bootBuiltins x) (hlim : s1.heap.NoLimit) (hg : s1.gens = #[]) (hr : Room k callerA)
    (ha : s1.heap.get? a = some { cls := .type "list", data := .seq vs.toArray }) (hi : IntsAre vs ns) (hl : ns.length ≤ sizeLine) (F : ∀ base : Heap, K.In base → base.Ns mainGlobals mg → FnG P w K mg base CX0 k fa sp)
    (hsp : ∀ H : Hp, Only H → SqL K H a (ns.map V.int) → sp [.ref a] H (fun v _ => v = .bl true) fun _ _ _ => False) :
    codeAny (model P w) callerA (.call (.ref fa) ⟨[.ref a], []⟩) (fun r s' => r = .ok (.ret (.bool true)) ∧ OldK s1.heap s'.heap ∧ s'.os = s1.os ∧ AllBare s'.gens) s1 := by
  have rv := vals_ints hi
  have hl2 : (ns.map V.int).length ≤ sizeLine := by rw [List.length_map]; exact hl
  cases hk : K.lookup a with
  | some o =>
    have e := KX a o hk
    rw [ha] at e
    cases e
    refine end_from KX hns hb hbb hlim hg hr F (H := fun _ => none) (fun _ => .inl rfl) (fun b u z => by cases z) (fun b u z => by cases z) (hsp _ (fun _ => .inl rfl) ?_)
    exact .inr ⟨_, vs.toArray, _, hk, rfl, rfl, rfl, by rw [List.size_toArray, hi.length]; exact hl, by simpa using rv⟩
  | none =>
    let o : Obj := { cls := .type "list", data := .seq vs.toArray }
    let H : Hp := fun b => if b = a then some (.frz o (.lst (ns.map V.int))) else none
    have H1 : H a = some (.frz o (.lst (ns.map V.int))) := if_pos rfl
    have H0 : ∀ b u, H b = some u → b = a ∧ u = .frz o (.lst (ns.map V.int)) := fun b u z => by
      by_cases e : b = a
      · subst e
        rw [H1] at z
        cases z
        exact ⟨rfl, rfl⟩
      · have z0 : H b = none := if_neg e
        rw [z0] at z
        cases z
    have hO : Only H := fun b => by
      by_cases e : b = a
      · subst e; exact .inr ⟨_, _, H1⟩
      · exact .inl (if_neg e)
    refine end_from KX hns hb hbb hlim hg hr F (H := H) hO (fun b u z => ?_) (fun b u z => ?_) (hsp _ hO (.inl (.inr ⟨_, H1⟩)))
    · obtain ⟨rfl, rfl⟩ := H0 b u z
      exact ⟨ha, hl2, vs, _, rv, ha⟩
    · obtain ⟨rfl, rfl⟩ := H0 b u z
      exact ⟨hk, _, _, _, ha, rfl⟩
end
theorem walk_ofG {l : PySem.W.OpenLaw} {n k : Nat} {q : Program} {loose : List Str} {XP : (Str → Option Value) → Heap → Prop} {YP : World → Heap → Prop} {d : DefRec} {K : Params → PySem.W.Frag} {sp : World → Sp}
    (hn : l.most = some n) (hn2 : n ≤ sizeLine) (hdf : d.params.defaults = []) (hr : Room k callerA) (hY : ∀ (w : World) (h : Heap), YP w h → (K w.params).In h)
    (F : ∀ (w : World) (mg : Str → Option Value) (fa : Addr) (h : Heap), (K w.params).In h → h.Ns mainGlobals mg → mg d.name = some (.ref fa) →
      ∀ base : Heap, (K w.params).In base → base.Ns mainGlobals mg → FnG l.prog w (K w.params) mg base CX0 k fa (sp w))
    (hsp : ∀ (w : World) (H : Hp) (a : Addr) (ns : List Int), ns.length ≤ n → Only H → SqL (K w.params) H a (ns.map V.int) → sp w [.ref a] H (fun v _ => v = .bl true) fun _ _ _ => False) :
    PySem.W.WalkO q loose XP YP l.row.toRowW d [] (fun f vs => PySem.call f vs) := by
  refine Att.attach_call hn hdf fun w s0 s1 mg mb fa o pm cd doc a vs ns G Y ho hd hcd hmg hobj hints hlen hg => ?_
  have KX := hY w _ Y
  exact end_callG KX G.T.g G.T.b G.T.builtins G.T.nolimit hg hr hobj hints (Nat.le_trans hlen hn2) (F w mg fa _ KX G.T.g hmg) fun H hO hS => hsp w H a ns hlen hO hS
end Ow
end
section
namespace Pf
open PySem PySem.Spec PyProof.Rows L2 Ow
def topS (i : Nat) : Stmt := PySem.Challenge.pw_heldfloods_k04_places_in_order.main.body.getD i (.Pass ⟨0, 0, 0, 0⟩)
abbrev s_is_int : Stmt := topS 6
theorem sc_is_int : FnScope ["value"] ["value"] (defScope s_is_int) := ⟨rfl, rfl, rfl, by decide +kernel, rfl, by decide +kernel, by decide +kernel⟩
abbrev s_Place_init : Stmt := inClass (topS 11) 0
theorem sc_Place_init : FnScope ["self", "slope", "offset", "odd"] ["self", "slope", "offset", "odd"] (defScope s_Place_init) := ⟨rfl, rfl, rfl, by decide +kernel, rfl, by decide +kernel, by decide +kernel⟩
abbrev s_Place_slope : Stmt := inClass (topS 11) 1
theorem sc_Place_slope : FnScope ["self"] ["self"] (defScope s_Place_slope) := ⟨rfl, rfl, rfl, by decide +kernel, rfl, by decide +kernel, by decide +kernel⟩
abbrev s_Place_offset : Stmt := inClass (topS 11) 2
theorem sc_Place_offset : FnScope ["self"] ["self"] (defScope s_Place_offset) := ⟨rfl, rfl, rfl, by decide +kernel, rfl, by decide +kernel, by decide +kernel⟩
abbrev s_Place_odd : Stmt := inClass (topS 11) 3
theorem sc_Place_odd : FnScope ["self"] ["self"] (defScope s_Place_odd) := ⟨rfl, rfl, rfl, by decide +kernel, rfl, by decide +kernel, by decide +kernel⟩
abbrev s_parts_of : Stmt := topS 15
theorem sc_parts_of : FnScope ["place"] ["place"] (defScope s_parts_of) := ⟨rfl, rfl, rfl, by decide +kernel, rfl, by decide +kernel, by decide +kernel⟩
abbrev s_Place_sub : Stmt := inClass (topS 11) 7
theorem sc_Place_sub : FnScope ["self", "other"] ["self", "other"] (defScope s_Place_sub) := ⟨rfl, rfl, rfl, by decide +kernel, rfl, by decide +kernel, by decide +kernel⟩
abbrev s_never_below : Stmt := topS 14
theorem sc_never_below : FnScope ["place", "least", "slope", "offset", "odd"] ["place", "least"] (defScope s_never_below) := ⟨rfl, rfl, rfl, by decide +kernel, rfl, by decide +kernel, by decide +kernel⟩
abbrev s_first_above : Stmt := topS 13
theorem sc_first_above : FnScope ["slope", "offset", "least"] ["slope", "offset", "least"] (defScope s_first_above) := ⟨rfl, rfl, rfl, by decide +kernel, rfl, by decide +kernel, by decide +kernel⟩
abbrev s_Place_le : Stmt := inClass (topS 11) 10
theorem sc_Place_le : FnScope ["self", "other"] ["self", "other"] (defScope s_Place_le) := ⟨rfl, rfl, rfl, by decide +kernel, rfl, by decide +kernel, by decide +kernel⟩
abbrev s_Place_lt : Stmt := inClass (topS 11) 11
theorem sc_Place_lt : FnScope ["self", "other"] ["self", "other"] (defScope s_Place_lt) := ⟨rfl, rfl, rfl, by decide +kernel, rfl, by decide +kernel, by decide +kernel⟩
abbrev s_Place_ge : Stmt := inClass (topS 11) 12
theorem sc_Place_ge : FnScope ["self", "other"] ["self", "other"] (defScope s_Place_ge) := ⟨rfl, rfl, rfl, by decide +kernel, rfl, by decide +kernel, by decide +kernel⟩
abbrev s_Place_gt : Stmt := inClass (topS 11) 13
theorem sc_Place_gt : FnScope ["self", "other"] ["self", "other"] (defScope s_Place_gt) := ⟨rfl, rfl, rfl, by decide +kernel, rfl, by decide +kernel, by decide +kernel⟩
abbrev s_first_beyond : Stmt := topS 12
theorem sc_first_beyond : FnScope ["one", "other", "slope", "offset", "odd", "at_odd", "at_even"] ["one", "other"] (defScope s_first_beyond) := ⟨rfl, rfl, rfl, by decide +kernel, rfl, by decide +kernel, by decide +kernel⟩
abbrev s__law_bag : Stmt := topS 22
theorem sc__law_bag : FnScope ["_law_script", "_law_state", "_law_cell"] ["_law_script"] (defScope s__law_bag) := ⟨rfl, rfl, rfl, by decide +kernel, rfl, by decide +kernel, by decide +kernel⟩
abbrev s__law_draw : Stmt := topS 23
theorem sc__law_draw : FnScope ["_law_bag_here", "_law_limit", "_law_cell", "_law_mixed", "_law_found"] ["_law_bag_here", "_law_limit"] (defScope s__law_draw) := ⟨rfl, rfl, rfl, by decide +kernel, rfl, by decide +kernel, by decide +kernel⟩
abbrev s__law_at : Stmt := topS 25
theorem sc__law_at : FnScope ["_law_parts_here", "_law_wide", "_law_half"] ["_law_parts_here", "_law_wide"] (defScope s__law_at) := ⟨rfl, rfl, rfl, by decide +kernel, rfl, by decide +kernel, by decide +kernel⟩
abbrev s__law_place : Stmt := topS 26
theorem sc__law_place : FnScope ["_law_parts_here"] ["_law_parts_here"] (defScope s__law_place) := ⟨rfl, rfl, rfl, by decide +kernel, rfl, by decide +kernel, by decide +kernel⟩
abbrev s__law_drawn : Stmt := topS 27
theorem sc__law_drawn : FnScope ["_law_bag_here"] ["_law_bag_here"] (defScope s__law_drawn) := ⟨rfl, rfl, rfl, by decide +kernel, rfl, by decide +kernel, by decide +kernel⟩
abbrev s__law_near : Stmt := topS 28
theorem sc__law_near : FnScope ["_law_bag_here", "_law_parts_here", "_law_steep"] ["_law_bag_here", "_law_parts_here"] (defScope s__law_near) := ⟨rfl, rfl, rfl, by decide +kernel, rfl, by decide +kernel, by decide +kernel⟩
abbrev s__law_gap : Stmt := topS 29
theorem sc__law_gap : FnScope ["_law_parts_here", "_law_others", "_law_size"] ["_law_parts_here", "_law_others", "_law_size"] (defScope s__law_gap) := ⟨rfl, rfl, rfl, by decide +kernel, rfl, by decide +kernel, by decide +kernel⟩
abbrev s__law_is_always : Stmt := topS 30
theorem sc__law_is_always : FnScope ["_law_parts_here", "_law_others", "_law_most"] ["_law_parts_here", "_law_others", "_law_most"] (defScope s__law_is_always) := ⟨rfl, rfl, rfl, by decide +kernel, rfl, by decide +kernel, by decide +kernel⟩
abbrev s__law_first : Stmt := topS 31
theorem sc__law_first : FnScope ["_law_parts_here", "_law_others", "_law_size"] ["_law_parts_here", "_law_others"] (defScope s__law_first) := ⟨rfl, rfl, rfl, by decide +kernel, rfl, by decide +kernel, by decide +kernel⟩
abbrev s_law : Stmt := topS 32
theorem sc_law : FnScope ["_law_script", "_law_bag_here", "_law_turn", "_law_parts_here", "_law_others", "_law_one", "_law_other", "_law_due", "_law_told", "_law_gaps", "_law_low", "_law_high", "_law_far", "_law_none", "_law_size", "_law_gap_here"] ["_law_script"] (defScope s_law) := ⟨rfl, rfl, rfl, by decide +kernel, rfl, by decide +kernel, by decide +kernel⟩
structure Adr where
  is_int : Addr
  Place_init : Addr
  Place_slope : Addr
  Place_offset : Addr
  Place_odd : Addr
  parts_of : Addr
  Place_sub : Addr
  never_below : Addr
  first_above : Addr
  Place_le : Addr
  Place_lt : Addr
  Place_ge : Addr
  Place_gt : Addr
  first_beyond : Addr
  _law_bag : Addr
  _law_draw : Addr
  _law_at : Addr
  _law_place : Addr
  _law_drawn : Addr
  _law_near : Addr
  _law_gap : Addr
  _law_is_always : Addr
  _law_first : Addr
  law : Addr
  Place : Addr
  pr_Place_slope : Addr
  pr_Place_offset : Addr
  pr_Place_odd : Addr
structure Txt (K : PySem.W.Frag) (mg : Str → Option Value) (a : Adr) : Prop where
  n_len : mg "len" = none
  n_int : mg "int" = none
  n_abs : mg "abs" = none
  n_list : mg "list" = none
  n_isinstance : mg "isinstance" = none
  n_bool : mg "bool" = none
  n_range : mg "range" = none
  n_repr : mg "repr" = none
  n_min : mg "min" = none
  n_max : mg "max" = none
  d_is_int : FnT K "is_int" "is_int" s_is_int [] a.is_int
  m_is_int : mg "is_int" = some (.ref a.is_int)
  k_is_int : PySem.W.keepIn K (.ref a.is_int) = true
  d_Place_init : FnT K "__init__" "Place.__init__" s_Place_init [.int 0] a.Place_init
  d_Place_slope : FnT K "slope" "Place.slope" s_Place_slope [] a.Place_slope
  d_Place_offset : FnT K "offset" "Place.offset" s_Place_offset [] a.Place_offset
  d_Place_odd : FnT K "odd" "Place.odd" s_Place_odd [] a.Place_odd
  d_parts_of : FnT K "parts_of" "parts_of" s_parts_of [] a.parts_of
  m_parts_of : mg "parts_of" = some (.ref a.parts_of)
  k_parts_of : PySem.W.keepIn K (.ref a.parts_of) = true
  d_Place_sub : FnT K "__sub__" "Place.__sub__" s_Place_sub [] a.Place_sub
  d_never_below : FnT K "never_below" "never_below" s_never_below [] a.never_below
  m_never_below : mg "never_below" = some (.ref a.never_below)
  k_never_below : PySem.W.keepIn K (.ref a.never_below) = true
  d_first_above : FnT K "first_above" "first_above" s_first_above [] a.first_above
  m_first_above : mg "first_above" = some (.ref a.first_above)
  k_first_above : PySem.W.keepIn K (.ref a.first_above) = true
  d_Place_le : FnT K "__le__" "Place.__le__" s_Place_le [] a.Place_le
  d_Place_lt : FnT K "__lt__" "Place.__lt__" s_Place_lt [] a.Place_lt
  d_Place_ge : FnT K "__ge__" "Place.__ge__" s_Place_ge [] a.Place_ge
  d_Place_gt : FnT K "__gt__" "Place.__gt__" s_Place_gt [] a.Place_gt
  d_first_beyond : FnT K "first_beyond" "first_beyond" s_first_beyond [] a.first_beyond
  m_first_beyond : mg "first_beyond" = some (.ref a.first_beyond)
  k_first_beyond : PySem.W.keepIn K (.ref a.first_beyond) = true
  d__law_bag : FnT K "_law_bag" "_law_bag" s__law_bag [] a._law_bag
  m__law_bag : mg "_law_bag" = some (.ref a._law_bag)
  k__law_bag : PySem.W.keepIn K (.ref a._law_bag) = true
  d__law_draw : FnT K "_law_draw" "_law_draw" s__law_draw [] a._law_draw
  m__law_draw : mg "_law_draw" = some (.ref a._law_draw)
  k__law_draw : PySem.W.keepIn K (.ref a._law_draw) = true
  d__law_at : FnT K "_law_at" "_law_at" s__law_at [] a._law_at
  m__law_at : mg "_law_at" = some (.ref a._law_at)
  k__law_at : PySem.W.keepIn K (.ref a._law_at) = true
  d__law_place : FnT K "_law_place" "_law_place" s__law_place [] a._law_place
  m__law_place : mg "_law_place" = some (.ref a._law_place)
  k__law_place : PySem.W.keepIn K (.ref a._law_place) = true
  d__law_drawn : FnT K "_law_drawn" "_law_drawn" s__law_drawn [] a._law_drawn
  m__law_drawn : mg "_law_drawn" = some (.ref a._law_drawn)
  k__law_drawn : PySem.W.keepIn K (.ref a._law_drawn) = true
  d__law_near : FnT K "_law_near" "_law_near" s__law_near [] a._law_near
  m__law_near : mg "_law_near" = some (.ref a._law_near)
  k__law_near : PySem.W.keepIn K (.ref a._law_near) = true
  d__law_gap : FnT K "_law_gap" "_law_gap" s__law_gap [] a._law_gap
  m__law_gap : mg "_law_gap" = some (.ref a._law_gap)
  k__law_gap : PySem.W.keepIn K (.ref a._law_gap) = true
  d__law_is_always : FnT K "_law_is_always" "_law_is_always" s__law_is_always [] a._law_is_always
  m__law_is_always : mg "_law_is_always" = some (.ref a._law_is_always)
  k__law_is_always : PySem.W.keepIn K (.ref a._law_is_always) = true
  d__law_first : FnT K "_law_first" "_law_first" s__law_first [] a._law_first
  m__law_first : mg "_law_first" = some (.ref a._law_first)
  k__law_first : PySem.W.keepIn K (.ref a._law_first) = true
  d_law : FnT K "law" "law" s_law [] a.law
  m_law : mg "law" = some (.ref a.law)
  k_law : PySem.W.keepIn K (.ref a.law) = true
  m_Place : mg "Place" = some (.ref a.Place)
  c_Place : ClsF K a.Place
  M_Place : Mk K a.Place a.Place_init
  a_Place__slope : NoAttr K a.Place "_slope"
  a_Place__offset : NoAttr K a.Place "_offset"
  a_Place__odd : NoAttr K a.Place "_odd"
  p_Place_slope : PropR K a.Place "slope" a.pr_Place_slope a.Place_slope
  p_Place_offset : PropR K a.Place "offset" a.pr_Place_offset a.Place_offset
  p_Place_odd : PropR K a.Place "odd" a.pr_Place_odd a.Place_odd
  o_Place_sub : PySem.W.findIn K (.ref a.Place) "__sub__" = some (some (.ref a.Place_sub))
  f_Place_sub : PySem.W.isFn K (.ref a.Place_sub) = true
  o_Place_le : PySem.W.findIn K (.ref a.Place) "__le__" = some (some (.ref a.Place_le))
  f_Place_le : PySem.W.isFn K (.ref a.Place_le) = true
  o_Place_lt : PySem.W.findIn K (.ref a.Place) "__lt__" = some (some (.ref a.Place_lt))
  f_Place_lt : PySem.W.isFn K (.ref a.Place_lt) = true
  o_Place_ge : PySem.W.findIn K (.ref a.Place) "__ge__" = some (some (.ref a.Place_ge))
  f_Place_ge : PySem.W.isFn K (.ref a.Place_ge) = true
  o_Place_gt : PySem.W.findIn K (.ref a.Place) "__gt__" = some (some (.ref a.Place_gt))
  f_Place_gt : PySem.W.isFn K (.ref a.Place_gt) = true
  s_Place_first : PySem.W.selfFirst K a.Place = true
  s_Place_int : PySem.W.subIn K (.type "int") (.ref a.Place) = some false
  s_Place_not : PySem.W.notFirst K a.Place (.ref a.Place) = true
  o_sub : PySem.W.findIn K (.ref a.Place) (PySem.dunder "sub") = some (some (.ref a.Place_sub))
/-! ### the bag of draws -/
/-- the pairs of a bag: its cells' list at c, where it stands, what rests, its state -/
def bagK (c : Addr) (i r st : Int) : List (Key × V) := [(Sum.inr "cells", V.ref c), (Sum.inr "at", V.int i), (Sum.inr "rest", V.int r), (Sum.inr "state", V.int st)]
theorem bagK_len (c : Addr) (i r st : Int) : (bagK c i r st).length < sizeLine := Nat.lt_of_le_of_lt (show 4 ≤ 4 from Nat.le_refl 4) (by decide +kernel)
theorem kAC : ¬ (("cells" : Str) = "at") := by decide +kernel
theorem kRC : ¬ (("cells" : Str) = "rest") := by decide +kernel
theorem kSC : ¬ (("cells" : Str) = "state") := by decide +kernel
theorem kAR : ¬ (("at" : Str) = "rest") := by decide +kernel
theorem kAS : ¬ (("at" : Str) = "state") := by decide +kernel
theorem kRS : ¬ (("rest" : Str) = "state") := by decide +kernel
theorem inr_ne {x y : Str} (h : ¬ x = y) : ¬ ((Sum.inr x : Key) = Sum.inr y) := fun e => h (Sum.inr.inj e)
theorem bag_cells (c : Addr) (i r st : Int) : valV (bagK c i r st) (Sum.inr "cells") = some (V.ref c) := valV_pos rfl
theorem bag_at (c : Addr) (i r st : Int) : valV (bagK c i r st) (Sum.inr "at") = some (V.int i) := (valV_neg (inr_ne kAC)).trans (valV_pos rfl)
theorem bag_rest (c : Addr) (i r st : Int) : valV (bagK c i r st) (Sum.inr "rest") = some (V.int r) := (valV_neg (inr_ne kRC)).trans ((valV_neg (inr_ne kAR)).trans (valV_pos rfl))
theorem bag_state (c : Addr) (i r st : Int) : valV (bagK c i r st) (Sum.inr "state") = some (V.int st) := (valV_neg (inr_ne kSC)).trans ((valV_neg (inr_ne kAS)).trans ((valV_neg (inr_ne kRS)).trans (valV_pos rfl)))
theorem put_at (c : Addr) (i r st j : Int) : putK (bagK c i r st) (Sum.inr "at") (V.int j) = bagK c j r st := by
  have e1 : ¬ ((Sum.inr ("cells" : Str) : Key) = Sum.inr ("at" : Str)) := inr_ne kAC
  have e2 : ¬ ((Sum.inr ("rest" : Str) : Key) = Sum.inr ("at" : Str)) := inr_ne fun z => kAR z.symm
  have e3 : ¬ ((Sum.inr ("state" : Str) : Key) = Sum.inr ("at" : Str)) := inr_ne fun z => kAS z.symm
  unfold putK bagK
  simp [e1, e2, e3]
theorem put_rest (c : Addr) (i r st j : Int) : putK (bagK c i r st) (Sum.inr "rest") (V.int j) = bagK c i j st := by
  have e1 : ¬ ((Sum.inr ("cells" : Str) : Key) = Sum.inr ("rest" : Str)) := inr_ne kRC
  have e2 : ¬ ((Sum.inr ("at" : Str) : Key) = Sum.inr ("rest" : Str)) := inr_ne kAR
  have e3 : ¬ ((Sum.inr ("state" : Str) : Key) = Sum.inr ("rest" : Str)) := inr_ne fun z => kRS z.symm
  unfold putK bagK
  simp [e1, e2, e3]
theorem put_state (c : Addr) (i r st j : Int) : putK (bagK c i r st) (Sum.inr "state") (V.int j) = bagK c i r j := by
  have e1 : ¬ ((Sum.inr ("cells" : Str) : Key) = Sum.inr ("state" : Str)) := inr_ne kSC
  have e2 : ¬ ((Sum.inr ("at" : Str) : Key) = Sum.inr ("state" : Str)) := inr_ne kAS
  have e3 : ¬ ((Sum.inr ("rest" : Str) : Key) = Sum.inr ("state" : Str)) := inr_ne kRS
  unfold putK bagK
  simp [e1, e2, e3]
theorem merge_bag (c : Addr) (i r st : Int) : mergeK [] (bagK c i r st) = bagK c i r st := by
  have e1 : ¬ ((Sum.inr ("cells" : Str) : Key) = Sum.inr ("at" : Str)) := inr_ne kAC
  have e2 : ¬ ((Sum.inr ("cells" : Str) : Key) = Sum.inr ("rest" : Str)) := inr_ne kRC
  have e3 : ¬ ((Sum.inr ("cells" : Str) : Key) = Sum.inr ("state" : Str)) := inr_ne kSC
  have e4 : ¬ ((Sum.inr ("at" : Str) : Key) = Sum.inr ("rest" : Str)) := inr_ne kAR
  have e5 : ¬ ((Sum.inr ("at" : Str) : Key) = Sum.inr ("state" : Str)) := inr_ne kAS
  have e6 : ¬ ((Sum.inr ("rest" : Str) : Key) = Sum.inr ("state" : Str)) := inr_ne kRS
  unfold mergeK bagK putK
  simp [e1, e2, e3, e4, e5, e6]
/-- what holds of a bag at d whose cells stand at c -/
structure BagN (c : Addr) (ns : List Int) (i : Nat) (r st : Int) : Prop where
  hi : i ≤ ns.length
  r0 : 0 ≤ r
  s0 : 0 ≤ st
  s1 : st < 2147483647
def BagIs (o : HO) (c : Addr) (ns : List Int) : Prop := ∃ (i : Nat) (r st : Int), o = .dK (bagK c i r st) ∧ BagN c ns i r st
/-- a bag stands at d -/
def Bag (H : Hp) (d : Addr) : Prop := ∃ (c : Addr) (ns : List Int) (o : HO), H d = some o ∧ BagIs o c ns ∧ H c = some (.lst (ns.map V.int)) ∧ ns.length ≤ 63
theorem Bag.ne {H : Hp} {d b : Addr} {o : HO} (B : Bag H d) (h : H b = some o) (n : ∀ kvs, o ≠ .dK kvs) : b ≠ d := by
  obtain ⟨c, ns, o', hd, ⟨i, r, st, e, _⟩, _⟩ := B
  subst e
  exact ne_of h hd (n _)
theorem Bag.same {H H' : Hp} {d : Addr} (B : Bag H d) (s : Same H H') : Bag H' d := by
  obtain ⟨c, ns, o, hd, bi, hc, hl⟩ := B
  exact ⟨c, ns, o, s _ _ hd, bi, s _ _ hc, hl⟩
theorem Bag.there {H : Hp} {d : Addr} (B : Bag H d) : ∃ o, H d = some o := by
  obtain ⟨c, ns, o, hd, _⟩ := B
  exact ⟨o, hd⟩
theorem upd_self {H : Hp} {a : Addr} {o : HO} (h : H a = some o) : upd H a o = H := by
  funext b
  by_cases e : b = a
  · subst e; rw [upd_same, h]
  · rw [upd_ne e]
/-- draw: an int below the limit, the bag goes on, nothing else is touched -/
def spDraw : Sp := fun vs H Q _ => ∃ (d : Addr) (n : Int), vs = [.ref d, .int n] ∧ Bag H d ∧ 0 < n ∧ n < 1073741824 ∧
  ∀ (z : Int) (o : HO), 0 ≤ z → z < n → Bag (upd H d o) d → Q (.int z) (upd H d o)
theorem dg_cells {H : Hp} {d c : Addr} {i r st : Int} (h : H d = some (.dK (bagK c i r st))) : DGet H d (.str "cells") (some (.ref c)) := .inl ⟨_, Sum.inr "cells", .inl h, rfl, (bag_cells c i r st).symm⟩
theorem dg_at {H : Hp} {d c : Addr} {i r st : Int} (h : H d = some (.dK (bagK c i r st))) : DGet H d (.str "at") (some (.int i)) := .inl ⟨_, Sum.inr "at", .inl h, rfl, (bag_at c i r st).symm⟩
theorem dg_rest {H : Hp} {d c : Addr} {i r st : Int} (h : H d = some (.dK (bagK c i r st))) : DGet H d (.str "rest") (some (.int r)) := .inl ⟨_, Sum.inr "rest", .inl h, rfl, (bag_rest c i r st).symm⟩
theorem dg_state {H : Hp} {d c : Addr} {i r st : Int} (h : H d = some (.dK (bagK c i r st))) : DGet H d (.str "state") (some (.int st)) := .inl ⟨_, Sum.inr "state", .inl h, rfl, (bag_state c i r st).symm⟩
theorem dp_at {H : Hp} {d c : Addr} {i r st : Int} (j : Int) (h : H d = some (.dK (bagK c i r st))) : DPut H d (.str "at") (.int j) (upd H d (.dK (bagK c j r st))) := by
  have := DPut.k (k := Sum.inr "at") (v := V.int j) h (bagK_len c i r st)
  rw [put_at] at this
  exact this
theorem dp_rest {H : Hp} {d c : Addr} {i r st : Int} (j : Int) (h : H d = some (.dK (bagK c i r st))) : DPut H d (.str "rest") (.int j) (upd H d (.dK (bagK c i j st))) := by
  have := DPut.k (k := Sum.inr "rest") (v := V.int j) h (bagK_len c i r st)
  rw [put_rest] at this
  exact this
theorem dp_state {H : Hp} {d c : Addr} {i r st : Int} (j : Int) (h : H d = some (.dK (bagK c i r st))) : DPut H d (.str "state") (.int j) (upd H d (.dK (bagK c i r j))) := by
  have := DPut.k (k := Sum.inr "state") (v := V.int j) h (bagK_len c i r st)
  rw [put_state] at this
  exact this
theorem while_inv {c : TT} {tb : TS} {D : Ends} {σ : L2.St} {H : Hp} (W : Nat → L2.St → Hp → Prop) (h0 : ∃ m, W m σ H) (hexit : ∀ m σ H, W m σ H → D.nx σ H)
    (hturn : (∀ m σ H, W m σ H → D.nx σ H) → ∀ m σ H, W m σ H → c σ H fun b H1 => if b = true then ∃ N : L2.St → Hp → Prop, (∀ σ' H', N σ' H' → ∃ m', m' < m ∧ W m' σ' H') ∧ tb { D with nx := N, ct := N, bk := D.nx } σ H1 else D.nx σ H1) : tWhile c tb D σ H :=
  ⟨W, h0, hturn hexit⟩
section
variable {P : Program} {w : World} {K : PySem.W.Frag} {mg : Str → Option Value} {base : Heap} {a : Adr}
set_option maxHeartbeats 4000000
theorem ok_draw (T : Txt K mg a) : FnR P w K mg base CX0 1 a._law_draw spDraw := by
  refine T.d__law_draw.ok sc__law_draw (fun _ _ _ _ _ _ us hl => match us, hl with | [_, _], _ => rfl) (fun vs H Q E h => ?_) (fun cdv A outer s H vs Q E hr h => ?_)
  · obtain ⟨d, n, rfl, _⟩ := h
    rfl
  · obtain ⟨d, n, rfl, B, hn, hn2, k⟩ := h
    have hu := hu_of hr
    have pos1 : (0 : Int) < 2147483647 := by decide
    have pos2 : (0 : Int) < 2147483629 := by decide
    refine ⟨_, (pss_cons (ps_while PassesOwn.never (PW.pt (pw_and (pt_cmpR op_lt (pe_dget hu (pv 0) pe_str (fun _ _ => rfl)) pe_int (nomark _)) (pw_and1 (pt_cmpR op_lt (pe_dget hu (pv 0) pe_str (fun _ _ => rfl)) (pe_callB call_len_seq (by rfl) T.n_len (by decide +kernel) (pa_cons (pe_dget hu (pv 0) pe_str (fun _ _ => rfl)) pa_nil)) (nomark _)))))
          (pss_cons (ps_set (i := 2) sc__law_draw.nd rfl (Or.inl rfl) (pe_callB call_abs (by rfl) T.n_abs (by decide +kernel) (pa_cons (pe_ix ix_list (pe_dget hu (pv 0) pe_str (fun _ _ => rfl)) (pe_dget hu (pv 0) pe_str (fun _ _ => rfl)) (fun _ _ => rfl)) pa_nil)))
          (pss_cons (ps_dput hu (pv 0) pe_str (pe_op op_add (pe_dget hu (pv 0) pe_str (fun _ _ => rfl)) pe_int) rfl)
          (pss_cons (ps_if (pt_cmpR op_lt (pv 2) (pe_op op_pow pe_int pe_int) (nomark _))
              (pss_cons (ps_set (i := 3) sc__law_draw.nd rfl (Or.inl rfl) (pe_op op_mod (pe_callTy call_int1 (by rfl) T.n_int (by decide +kernel) (pa_cons (pe_op op_add (pe_op op_pow (pe_op op_add (pv 2) pe_int) pe_int) (pe_op op_mul (pe_dget hu (pv 0) pe_str (fun _ _ => rfl)) (pe_op op_add (pe_dget hu (pv 0) pe_str (fun _ _ => rfl)) pe_int))) pa_nil)) pe_int))
              (pss_one (ps_ret (pe_op op_mod (pv 3) (pv 1)))))
              pss_nil)
          (pss_one (ps_dput hu (pv 0) pe_str (pv 2) rfl))))))
      (pss_cons (ps_if (pt_cmpR op_ge (pe_dget hu (pv 0) pe_str (fun _ _ => rfl)) pe_int (nomark _))
          (pss_cons (ps_set (i := 4) sc__law_draw.nd rfl (Or.inl rfl) (pe_op op_mod (pe_callTy call_int1 (by rfl) T.n_int (by decide +kernel) (pa_cons (pe_dget hu (pv 0) pe_str (fun _ _ => rfl)) pa_nil)) (pv 1)))
          (pss_cons (ps_dput hu (pv 0) pe_str (pe_op op_fdiv (pe_dget hu (pv 0) pe_str (fun _ _ => rfl)) (pv 1)) rfl)
          (pss_one (ps_ret (pv 4)))))
          pss_nil)
      (pss_cons (ps_dput hu (pv 0) pe_str (pe_op op_mod (pe_callTy call_int1 (by rfl) T.n_int (by decide +kernel) (pa_cons (pe_op op_add (pe_op op_mul (pe_dget hu (pv 0) pe_str (fun _ _ => rfl)) pe_int) pe_int) pa_nil)) pe_int) rfl)
      (pss_one (ps_ret (pe_op op_mod (pe_op op_mod (pe_callTy call_int1 (by rfl) T.n_int (by decide +kernel) (pa_cons (pe_op op_pow (pe_dget hu (pv 0) pe_str (fun _ _ => rfl)) pe_int) pa_nil)) pe_int) (pv 1))))))), ?_⟩
    obtain ⟨c, ns, o, hd, ⟨i0, r0, st0, eo, N0⟩, hc, hns⟩ := B
    subst eo
    have hcd : c ≠ d := ne_of hc hd (fun z => by cases z)
    have bagU : ∀ (i : Nat) (r st : Int), BagN c ns i r st → Bag (upd H d (.dK (bagK c i r st))) d := fun i r st N =>
      ⟨c, ns, _, upd_same, ⟨i, r, st, rfl, N⟩, by rw [upd_ne hcd]; exact hc, hns⟩
    have kk : ∀ (z : Int) (i : Nat) (r st : Int), 0 ≤ z → z < n → BagN c ns i r st → Q (.int z) (upd H d (.dK (bagK c i r st))) := fun z i r st h0 h1 N => k z _ h0 h1 (bagU i r st N)
    refine while_inv (fun m σ H' => ∃ (i : Nat) (r st : Int) (v2 v3 v4 : Option V), m = ns.length - i ∧ σ = [some (.ref d), some (.int n), v2, v3, v4] ∧ H' = upd H d (.dK (bagK c i r st)) ∧ BagN c ns i r st)
      ⟨_, i0, r0, st0, _, _, _, rfl, rfl, (upd_self hd).symm, N0⟩ ?_ ?_
    · -- behind the loop
      rintro m σ H' ⟨i, r, st, v2, v3, v4, _, rfl, rfl, N⟩
      refine ⟨_, rfl, d, _, rfl, dg_rest upd_same, _, _, rfl, rfl, _, rfl, ?_⟩
      refine ite2 (fun hb => ?_) (fun hb => ?_)
      · have h2 : 2 ≤ r := of_decide_eq_true hb
        refine ⟨_, rfl, d, _, rfl, dg_rest upd_same, .inl ⟨_, rfl, _, rfl, _, _, rfl, rfl, hn, ?_⟩⟩
        refine ⟨_, rfl, d, _, rfl, dg_rest upd_same, _, rfl, _, _, rfl, rfl, ⟨hn, hn2⟩, _, rfl, d, _, rfl, dp_rest _ upd_same, ?_⟩
        rw [upd_upd]
        refine ⟨_, rfl, kk _ i _ st (Int.emod_nonneg _ (by omega)) (Int.emod_lt_of_pos _ hn) ⟨N.hi, Int.ediv_nonneg N.r0 (by omega), N.s0, N.s1⟩⟩
      · have s64 : (-(2 ^ 64) < st ∧ st < 2 ^ 64) := ⟨by have := N.s0; omega, by have := N.s1; omega⟩
        refine ⟨_, rfl, d, _, rfl, dg_state upd_same, _, _, rfl, rfl, .inl s64, _, _, rfl, rfl, .inl ⟨_, rfl, _, _, rfl, rfl, pos1, _, rfl, d, _, rfl, dp_state _ upd_same, ?_⟩⟩
        rw [upd_upd]
        have t0 : 0 ≤ (st * 48271 + 13) % 2147483647 := Int.emod_nonneg _ (by decide)
        have t1 : (st * 48271 + 13) % 2147483647 < 2147483647 := Int.emod_lt_of_pos _ (by decide)
        refine ⟨_, rfl, d, _, rfl, dg_state upd_same, _, _, rfl, rfl, ⟨by decide, by decide, by omega⟩, .inl ⟨_, rfl, _, _, rfl, rfl, pos2, _, rfl, _, _, rfl, rfl, hn, ?_⟩⟩
        exact kk _ i _ _ (Int.emod_nonneg _ (by omega)) (Int.emod_lt_of_pos _ hn) ⟨N.hi, N.r0, t0, t1⟩
    · rintro ex m σ H' ⟨i, r, st, v2, v3, v4, rfl, rfl, rfl, N⟩
      have hc' : ∀ o, (upd H d o) c = some (.lst (ns.map V.int)) := fun o => by rw [upd_ne hcd]; exact hc
      refine ⟨_, rfl, d, _, rfl, dg_rest upd_same, _, _, rfl, rfl, _, rfl, ?_⟩
      refine ite2 (fun hb => ?_) (fun hb => iteF (ex _ _ _ ⟨i, r, st, v2, v3, v4, rfl, rfl, rfl, N⟩))
      refine ⟨_, rfl, d, _, rfl, dg_at upd_same, _, rfl, d, _, rfl, dg_cells upd_same, c, _, rfl, .inl (SqL.of (hc' _)), _, _, rfl, rfl, _, rfl, ?_⟩
      refine ite2 (fun hb2 => ?_) (fun hb2 => ex _ _ _ ⟨i, r, st, v2, v3, v4, rfl, rfl, rfl, N⟩)
      have hil : i < ns.length := by
        have := of_decide_eq_true hb2
        rw [List.length_map] at this
        omega
      refine ⟨fun σ' H' => ∃ m', m' < ns.length - i ∧ ∃ (i : Nat) (r st : Int) (v2 v3 v4 : Option V), m' = ns.length - i ∧ σ' = [some (.ref d), some (.int n), v2, v3, v4] ∧ H' = upd H d (.dK (bagK c i r st)) ∧ BagN c ns i r st, fun _ _ h => h, ?_⟩
      -- cell = abs(cells[at]); at = at + 1
      have ei : (ns.map V.int)[i]? = some (V.int ns[i]) := by simp [hil]
      have s64 : (-(2 ^ 64) < st ∧ st < 2 ^ 64) := ⟨by have := N.s0; omega, by have := N.s1; omega⟩
      have ea : (i : Int) + 1 = ((i + 1 : Nat) : Int) := by omega
      refine ⟨_, rfl, d, _, rfl, dg_cells upd_same, _, rfl, d, _, rfl, dg_at upd_same, c, _, _, _, rfl, rfl, SqL.of (hc' _), atI_nat ei, _, rfl, ?_⟩
      have hc0 : 0 ≤ (if ns[i] < 0 then -ns[i] else ns[i]) := by split <;> omega
      generalize (if ns[i] < 0 then -ns[i] else ns[i]) = cell at hc0
      refine ⟨_, rfl, d, _, rfl, dg_at upd_same, _, _, rfl, rfl, _, rfl, d, _, rfl, dp_at _ upd_same, ?_⟩
      rw [upd_upd, ea]
      refine ⟨_, rfl, _, _, rfl, rfl, ⟨by decide, by decide, by decide⟩, _, _, rfl, rfl, _, rfl, ?_⟩
      refine ite2 (fun h18 => ?_) (fun h18 => ?_)
      · have h18' : cell < 10 ^ 18 := of_decide_eq_true h18
        have hq : (10 : Int) ^ 18 = 1000000000000000000 := by decide
        rw [hq] at h18'
        refine ⟨_, rfl, _, _, rfl, rfl, _, _, rfl, rfl, ⟨by decide, by decide, by omega⟩, _, rfl, d, _, rfl, dg_state upd_same, _, rfl, d, _, rfl, dg_at upd_same, _, _, rfl, rfl, _, _, rfl, rfl, .inl s64, _, _, rfl, rfl, .inl ⟨_, rfl, _, _, rfl, rfl, pos2, ?_⟩⟩
        refine ⟨_, rfl, _, rfl, _, _, rfl, rfl, hn, ?_⟩
        exact kk _ (i + 1) _ _ (Int.emod_nonneg _ (by omega)) (Int.emod_lt_of_pos _ hn) ⟨hil, N.r0, N.s0, N.s1⟩
      · refine ⟨_, rfl, _, rfl, d, _, rfl, dp_rest _ upd_same, ?_⟩
        rw [upd_upd]
        exact ⟨_, Nat.sub_lt_sub_left hil (Nat.lt_succ_self i), i + 1, cell, st, _, _, _, rfl, rfl, rfl, ⟨hil, hc0, N.s0, N.s1⟩⟩
/-- bag: a new bag of the script -/
def spBag (K : PySem.W.Frag) : Sp := fun vs H Q _ => ∃ (sa : Addr) (ns : List Int), vs = [.ref sa] ∧ SqL K H sa (ns.map V.int) ∧ ns.length ≤ 63 ∧
  ∀ (d : Addr) (H' : Hp), Same H H' → H d = none → Bag H' d → Q (.ref d) H'
theorem cut63 {ns : List Int} (h : ns.length ≤ 63) : cutV (ns.map V.int) none (some 63) = ns.map V.int := by
  have e1 : HT.sIx (ns.map V.int).length 0 none = 0 := rfl
  have e2 : (ns.map V.int).length ≤ HT.sIx (ns.map V.int).length (ns.map V.int).length (some 63) := by
    rw [List.length_map]
    unfold HT.sIx
    simp
    omega
  unfold cutV
  rw [e1, List.drop_zero, Nat.sub_zero]
  exact List.take_of_length_le e2
theorem ok_bag (T : Txt K mg a) : FnR P w K mg base CX0 1 a._law_bag (spBag K) := by
  refine T.d__law_bag.ok sc__law_bag (fun _ _ _ _ _ _ us hl => match us, hl with | [_], _ => rfl) (fun vs H Q E h => ?_) (fun cdv A outer s H vs Q E hr h => ?_)
  · obtain ⟨sa, ns, rfl, _⟩ := h
    rfl
  · obtain ⟨sa, ns, rfl, hS, hns, k⟩ := h
    have hu := hu_of hr
    have pos1 : (0 : Int) < 2147483647 := by decide
    have pos2 : (0 : Int) < 2147483629 := by decide
    refine ⟨_, (pss_cons (ps_set (i := 1) sc__law_bag.nd rfl (Or.inl rfl) pe_int)
      (pss_cons (ps_for PassesOwn.never rfl (pi_list (pe_slice sl_list (pv 0) po_none (po_some pe_int))) (pg_name (i := 2) sc__law_bag.nd rfl (Or.inl rfl))
          (pss_one (ps_set (i := 1) sc__law_bag.nd rfl (Or.inl rfl) (pe_op op_mod (pe_callTy call_int1 (by rfl) T.n_int (by decide +kernel) (pa_cons (pe_op op_add (pe_op op_add (pe_op op_mul (pv 1) pe_int) (pe_op op_mod (pe_callB call_abs (by rfl) T.n_abs (by decide +kernel) (pa_cons (pv 2) pa_nil)) pe_int)) pe_int) pa_nil)) pe_int))))
      (pss_one (ps_ret (pe_disp (pps_cons pe_str (pe_callTy call_list_of (by rfl) T.n_list (by decide +kernel) (pa_cons (pe_slice sl_list (pv 0) po_none (po_some pe_int)) pa_nil)) (pps_cons pe_str pe_int (pps_cons pe_str pe_int (pps_cons pe_str (pv 1) pps_nil)))) (by rfl) (by rfl) (fun z => by cases z) (by decide)))))), ?_⟩
    refine ⟨_, rfl, _, rfl, sa, _, rfl, hS, fun p hp => ?_⟩
    rw [cut63 hns]
    refine ⟨p, rfl, ⟨_, SqL.of upd_same⟩, for_list (K := K) (a := p) (xs := ns.map V.int) (fun i σ H' => ∃ (st : Int) (v : Option V), σ = [some (.ref sa), some (.int st), v] ∧ H' = upd H p (.lst (ns.map V.int)) ∧ 0 ≤ st ∧ st < 2147483647)
      ⟨7, none, rfl, rfl, by decide, by decide⟩ (fun i σ H' _ ⟨_, _, _, e, _⟩ => by rw [e]; exact SqL.of upd_same) ?_ ?_⟩
    · rintro i y σ H' hi ⟨st, v, rfl, rfl, s0, s1⟩
      obtain ⟨z, rfl⟩ : ∃ z, y = V.int z := by
        rw [List.getElem?_map] at hi
        cases e : ns[i]? with
        | none =>
          rw [e] at hi
          cases hi
        | some z =>
          rw [e] at hi
          exact ⟨z, (Option.some.inj hi).symm⟩
      have s64 : (-(2 ^ 64) < st ∧ st < 2 ^ 64) := ⟨by omega, by omega⟩
      refine ⟨_, rfl, _, _, rfl, rfl, .inl s64, _, rfl, _, rfl, _, _, rfl, rfl, pos2, _, _, rfl, rfl, _, _, rfl, rfl, .inl ⟨_, rfl, _, _, rfl, rfl, pos1, ?_⟩⟩
      exact ⟨_, _, rfl, rfl, Int.emod_nonneg _ (by decide), Int.emod_lt_of_pos _ pos1⟩
    · rintro σ H' ⟨st, v, rfl, rfl, s0, s1⟩
      have s1' : Same H (upd H p (.lst (ns.map V.int))) := fun b o e => by rw [upd_ne (ne_of_none e hp)]; exact e
      intro d hd
      have hdp : p ≠ d := ne_of_none (upd_same (H := H) (o := .lst (ns.map V.int))) hd
      have hd0 : H d = none := s1'.free hd
      have hS2 : SqL K (upd (upd H p (.lst (ns.map V.int))) d (.dK [])) sa (ns.map V.int) := by
        refine Same.seq (fun b o e => ?_) (s1'.seq hS)
        rw [upd_ne (ne_of_none e hd)]
        exact e
      refine ⟨_, rfl, _, rfl, sa, _, rfl, hS2, fun p2 hp2 => ?_⟩
      rw [cut63 hns]
      refine ⟨p2, _, rfl, .inl (SqL.of upd_same), fun l hl => ?_⟩
      have hpd : p2 ≠ d := fun e => by rw [e, upd_same] at hp2; cases hp2
      have hld : l ≠ d := fun e => by rw [e, upd_ne (fun z => hpd z.symm), upd_same] at hl; cases hl
      refine ⟨_, rfl, by rw [upd_ne (fun z => hld z.symm), upd_ne (fun z => hpd z.symm), upd_same], bagK l 0 0 st, rfl, (by show 4 ≤ 15; decide), ?_⟩
      rw [merge_bag]
      refine k d _ (fun b o e => ?_) hd0 ⟨l, ns, _, upd_same, ⟨0, 0, st, rfl, ⟨Nat.zero_le _, Int.le_refl _, s0, s1⟩⟩, by rw [upd_ne hld, upd_same], hns⟩
      have e1 := s1' _ _ e
      have nb : b ≠ d := ne_of_none e1 hd
      have e2 : (upd (upd H p (.lst (ns.map V.int))) d (.dK [])) b = some o := by rw [upd_ne nb]; exact e1
      have e3 : (upd (upd (upd H p (.lst (ns.map V.int))) d (.dK [])) p2 (.lst (ns.map V.int))) b = some o := by rw [upd_ne (ne_of_none e2 hp2)]; exact e2
      rw [upd_ne nb, upd_ne (ne_of_none e3 hl)]
      exact e3
end
/-! ### places -/
theorem kSO : ¬ (("_slope" : Str) = "_offset") := by decide +kernel
theorem kSD : ¬ (("_slope" : Str) = "_odd") := by decide +kernel
theorem kOD : ¬ (("_offset" : Str) = "_odd") := by decide +kernel
def plF (s o d : Int) : List (Str × V) := putF "_odd" (.int d) (putF "_offset" (.int o) (putF "_slope" (.int s) []))
theorem plF_slope (s o d : Int) : (plF s o d).lookup ("_slope" : Str) = some (.int s) := by
  unfold plF
  rw [lookup_putF, if_neg kSD, lookup_putF, if_neg kSO, lookup_putF, if_pos rfl]
theorem plF_offset (s o d : Int) : (plF s o d).lookup ("_offset" : Str) = some (.int o) := by
  unfold plF
  rw [lookup_putF, if_neg kOD, lookup_putF, if_pos rfl]
theorem plF_odd (s o d : Int) : (plF s o d).lookup ("_odd" : Str) = some (.int d) := by
  unfold plF
  rw [lookup_putF, if_pos rfl]
theorem putF_le (f : Str) (v : V) : ∀ fs : List (Str × V), (putF f v fs).length ≤ fs.length + 1
  | [] => Nat.le_refl 1
  | p :: r => by
    show (if p.1 = f then (p.1, v) :: r else p :: putF f v r).length ≤ r.length + 1 + 1
    split
    · exact Nat.le_succ _
    · exact Nat.succ_le_succ (putF_le f v r)
theorem len2 (s o : Int) : (putF "_offset" (.int o) (putF "_slope" (.int s) [])).length ≤ 2 := Nat.le_trans (putF_le _ _ _) (Nat.succ_le_succ (putF_le _ _ _))
/-- the place s, o, d stands at p -/
def PlaceAt (H : Hp) (C p : Addr) (s o d : Int) : Prop := ∃ dx, H p = some (.ins C dx (plF s o d))
theorem PlaceAt.same {H H' : Hp} {C p : Addr} {s o d : Int} (h : PlaceAt H C p s o d) (e : Same H H') : PlaceAt H' C p s o d := h.elim fun dx z => ⟨dx, e _ _ z⟩
theorem PlaceAt.ins {H : Hp} {C p : Addr} {s o d : Int} (h : PlaceAt H C p s o d) : InsAt H p C := h.elim fun dx z => ⟨dx, _, z⟩
theorem PlaceAt.insC {X : Cx} {H : Hp} {C p : Addr} {s o d : Int} (h : PlaceAt H C p s o d) : StX.InsC X H p C := .inr (h.elim fun dx z => ⟨dx, _, z⟩)
/-- what follows a new place -/
def NewP (C : Addr) (H : Hp) (s o d : Int) (Q : VK) : Prop := ∀ x H', Same H H' → H x = none → PlaceAt H' C x s o d → Q (.ref x) H'
def spIntI : Sp := fun vs H Q _ => ∃ i : Int, vs = [.int i] ∧ Q (.bl true) H
def spSizeI : Sp := fun vs H Q _ => ∃ (i : Int) (part : Str), vs = [.int i, .str part] ∧ 1 ≤ i ∧ Q .non H
def spPInit (C : Addr) : Sp := fun vs H Q _ => ∃ (p dx : Addr) (s o d : Int), vs = [.ref p, .int s, .int o, .int d] ∧ H p = some (.ins C dx []) ∧ Q .non (upd H p (.ins C dx (plF s o d)))
def spPSlope (C : Addr) : Sp := fun vs H Q _ => ∃ (p : Addr) (s o d : Int), vs = [.ref p] ∧ PlaceAt H C p s o d ∧ Q (.int s) H
def spPOffset (C : Addr) : Sp := fun vs H Q _ => ∃ (p : Addr) (s o d : Int), vs = [.ref p] ∧ PlaceAt H C p s o d ∧ Q (.int o) H
def spPOdd (C : Addr) : Sp := fun vs H Q _ => ∃ (p : Addr) (s o d : Int), vs = [.ref p] ∧ PlaceAt H C p s o d ∧ Q (.int d) H
def valP (s o d n : Int) : Int := s * (n / 2) + o + d * (n % 2)
def spPCall (C : Addr) : Sp := fun vs H Q _ => ∃ (p : Addr) (s o d n : Int), vs = [.ref p, .int n] ∧ PlaceAt H C p s o d ∧ 1 ≤ n ∧ CMulW s (n / 2) ∧ CMulW d (n % 2) ∧ Q (.int (valP s o d n)) H
def spPParts (C : Addr) : Sp := fun vs H Q _ => ∃ (p : Addr) (s o d : Int), vs = [.ref p] ∧ PlaceAt H C p s o d ∧ ∀ t, H t = none → Q (.ref t) (upd H t (.tup [.int s, .int o, .int d]))
def spPAddP (C : Addr) (f : Int → Int → Int) : Sp := fun vs H Q _ => ∃ (p q : Addr) (s o d s' o' d' : Int), vs = [.ref p, .ref q] ∧ PlaceAt H C p s o d ∧ PlaceAt H C q s' o' d' ∧ NewP C H (f s s') (f o o') (f d d') Q
def spPAddI (C : Addr) (f : Int → Int → Int) : Sp := fun vs H Q _ => ∃ (p : Addr) (s o d i : Int), vs = [.ref p, .int i] ∧ PlaceAt H C p s o d ∧ NewP C H s (f o i) d Q
def spPInv (C : Addr) : Sp := fun vs H Q _ => ∃ (p : Addr) (s o d : Int), vs = [.ref p] ∧ PlaceAt H C p s o d ∧ NewP C H (2 - s) (-o) (1 - d) Q
def spPEq (C : Addr) : Sp := fun vs H Q _ => ∃ (p q : Addr) (s o d s' o' d' : Int), vs = [.ref p, .ref q] ∧ PlaceAt H C p s o d ∧ PlaceAt H C q s' o' d' ∧ ∀ H', Same H H' → Q (.bl (decide (s = s' ∧ o = o' ∧ d = d'))) H'
def spPOfI (C : Addr) (f : Int → Int × Int × Int) : Sp := fun vs H Q _ => ∃ i : Int, vs = [.int i] ∧ NewP C H (f i).1 (f i).2.1 (f i).2.2 Q
/-- a place made of three ints: what the making asks -/
theorem newP_make {C : Addr} {H : Hp} {s o d : Int} {Q : VK} {E : XK} (k : NewP C H s o d Q) : ∀ x dx, H x = none → H dx = none → dx ≠ x →
    spPInit C [.ref x, .int s, .int o, .int d] (upd (upd H dx (.own x)) x (.ins C dx [])) (fun v H2 => v = .non ∧ Q (.ref x) H2) E := by
  intro x dx nx ndx ne
  refine ⟨x, dx, s, o, d, rfl, upd_same, rfl, ?_⟩
  rw [upd_upd]
  refine k x _ (fun b u e => ?_) nx ⟨dx, upd_same⟩
  rw [upd_ne (ne_of_none e nx), upd_ne (ne_of_none e ndx)]
  exact e
section
variable {P : Program} {w : World} {K : PySem.W.Frag} {mg : Str → Option Value} {base : Heap} {a : Adr}
set_option maxHeartbeats 4000000
theorem ok_is_int (T : Txt K mg a) : FnR P w K mg base CX0 1 a.is_int spIntI := by
  refine T.d_is_int.ok sc_is_int (fun _ _ _ _ _ _ us hl => match us, hl with | [_], _ => rfl) (fun vs H Q E h => ?_) (fun cdv A outer s H vs Q E hr h => ?_)
  · obtain ⟨i, rfl, _⟩ := h
    rfl
  · obtain ⟨i, rfl, k⟩ := h
    refine ⟨_, (pss_one (ps_ret (pe_and (pe_callB call_isi (by rfl) T.n_isinstance (by decide +kernel) (pa_cons (pv 0) (pa_cons (pe_bltn (v := .ty "int") (by rfl) T.n_int (by decide +kernel) rfl) pa_nil))) (pe_one (pe_not (pe_callB call_isi (by rfl) T.n_isinstance (by decide +kernel) (pa_cons (pv 0) (pa_cons (pe_bltn (v := .ty "bool") (by rfl) T.n_bool (by decide +kernel) rfl) pa_nil)))))))), ?_⟩
    exact ⟨_, rfl, _, _, _, _, _, rfl, .ty _, .base (.int _), kit_int_int, true, rfl, _, rfl, _, _, _, _, _, rfl, .ty _, .base (.int _), kit_int_bool, false, rfl, k⟩
theorem ok_p_init (T : Txt K mg a) : FnR P w K mg base CX0 2 a.Place_init (spPInit a.Place) := by
  have G_is_int : FnR P w K mg base CX0 1 a.is_int spIntI := ok_is_int T
  have F := T.d_Place_init.okD (P := P) (w := w) (mg := mg) (base := base) (k := 1) (n := 4) (j := 1) (sp := spPInit a.Place) sc_Place_init (by simp) rfl (fun T kV doc pm an cdv ct us its hu hi => match us, its, hu, hi with | [_, _, _, _], [_], _, _ => ⟨_, rfl, rfl⟩) (fun vs H Q E h => by obtain ⟨p, dx, s, o, d, rfl, _⟩ := h; rfl) (fun cdv A outer s H vs Q E hr h => ?_)
  · exact F.imp fun vs H Q E h => by
      show spPInit a.Place (vs ++ []) H Q E
      rw [List.append_nil]
      exact h
  · obtain ⟨p, dx, s, o, d, rfl, hp, k⟩ := h
    refine ⟨_, (pss_cons (ps_if (pt_not (pt_val (pe_callR G_is_int (hr.mono (by decide)) T.m_is_int T.k_is_int pass0 (pa_cons (pv 1) pa_nil))))
          (pss_one ps_never)
          pss_nil)
      (pss_cons (ps_if (pt_not (pt_val (pe_callR G_is_int (hr.mono (by decide)) T.m_is_int T.k_is_int pass0 (pa_cons (pv 2) pa_nil))))
          (pss_one ps_never)
          pss_nil)
      (pss_cons (ps_if (pt_not (pt_val (pe_callR G_is_int (hr.mono (by decide)) T.m_is_int T.k_is_int pass0 (pa_cons (pv 3) pa_nil))))
          (pss_one ps_never)
          pss_nil)
      (pss_cons (ps_fld (pv 0) (pv 1) rfl)
      (pss_cons (ps_fld (pv 0) (pv 2) rfl)
      (pss_one (ps_fld (pv 0) (pv 3) rfl))))))), ?_⟩
    refine ⟨_, rfl, s, rfl, true, rfl, iteF ⟨_, rfl, o, rfl, true, rfl, iteF ⟨_, rfl, d, rfl, true, rfl, iteF ?_⟩⟩⟩
    refine ⟨_, rfl, _, rfl, p, _, dx, [], rfl, hp, T.c_Place.cl, T.a_Place__slope, (by show 0 < 1000; decide), ?_⟩
    refine ⟨_, rfl, _, rfl, p, _, dx, _, rfl, upd_same, T.c_Place.cl, T.a_Place__offset, (by show 1 < 1000; decide), ?_⟩
    rw [upd_upd]
    refine ⟨_, rfl, _, rfl, p, _, dx, _, rfl, upd_same, T.c_Place.cl, T.a_Place__odd, Nat.lt_of_le_of_lt (len2 s o) (by decide), ?_⟩
    rw [upd_upd]
    exact k
end
/-! ### the first size at which a difference of places is above 0 -/
def faV (s o l : Int) : V := if 0 < s * l + o then .int l else if s ≤ 0 then .non else .int (-o / s + 1)
def Fa (s o l : Int) (v : V) : Prop :=
  (∃ a, v = .int a ∧ l ≤ a ∧ 0 < s * a + o ∧ (∀ m, l ≤ m → m < a → s * m + o ≤ 0) ∧ (a ≤ l ∨ a ≤ -o + 1)) ∨ (v = .non ∧ ∀ m, l ≤ m → s * m + o ≤ 0)
theorem fa_is (s o l : Int) (hl : 0 ≤ l) : Fa s o l (faV s o l) := by
  unfold faV
  by_cases h1 : 0 < s * l + o
  · rw [if_pos h1]
    exact .inl ⟨l, rfl, Int.le_refl _, h1, fun m a b => by omega, .inl (Int.le_refl _)⟩
  · rw [if_neg h1]
    by_cases h2 : s ≤ 0
    · rw [if_pos h2]
      refine .inr ⟨rfl, fun m hm => ?_⟩
      have := Int.mul_le_mul_of_nonpos_left h2 hm
      omega
    · rw [if_neg h2]
      have hs : 0 < s := by omega
      have e1 : s * (-o / s) + -o % s = -o := Int.mul_ediv_add_emod (-o) s
      have e2 : 0 ≤ -o % s := Int.emod_nonneg _ (by omega)
      have e3 : -o % s < s := Int.emod_lt_of_pos _ hs
      have lo : l ≤ -o / s := by
        have q : s * l ≤ -o := by omega
        exact (Int.le_ediv_iff_mul_le hs).mpr (by rw [Int.mul_comm]; exact q)
      refine .inl ⟨_, rfl, by omega, ?_, fun m hm hm2 => ?_, .inr ?_⟩
      · rw [Int.mul_add]
        omega
      · have q : m ≤ -o / s := by omega
        have := Int.mul_le_mul_of_nonneg_left q (by omega : 0 ≤ s)
        omega
      · have q0 : 0 ≤ -o / s := by omega
        have q1 : -o / s ≤ s * (-o / s) := by
          have := Int.mul_le_mul_of_nonneg_right (show (1 : Int) ≤ s by omega) q0
          omega
        omega
def fbV (S O D : Int) : V := match faV S (O + D) 0, faV S O 1 with
  | .int a, .int b => if 2 * a + 1 < 2 * b then .int (2 * a + 1) else .int (2 * b)
  | .int a, _ => .int (2 * a + 1)
  | _, .int b => .int (2 * b)
  | _, _ => .non
def FirstIs (S O D : Int) (v : V) : Prop :=
  (∃ n, v = .int n ∧ 1 ≤ n ∧ n < 130 ∧ 0 < valP S O D n ∧ ∀ m, 1 ≤ m → m < n → valP S O D m ≤ 0) ∨ (v = .non ∧ ∀ m, 1 ≤ m → m < 130 → valP S O D m ≤ 0)
theorem FirstIs.the {S O D : Int} {v u : V} (h : FirstIs S O D v) (k : FirstIs S O D u) : v = u := by
  rcases h with ⟨n, rfl, n1, n2, n3, n4⟩ | ⟨rfl, h⟩
  · rcases k with ⟨m, rfl, m1, m2, m3, m4⟩ | ⟨rfl, k⟩
    · have : n = m := by
        rcases Int.lt_trichotomy n m with z | z | z
        · have := m4 n n1 z; omega
        · exact z
        · have := n4 m m1 z; omega
      rw [this]
    · have := k n n1 n2; omega
  · rcases k with ⟨m, rfl, m1, m2, m3, m4⟩ | ⟨rfl, k⟩
    · have := h m m1 m2; omega
    · rfl
theorem val_odd (S O D m : Int) : valP S O D (2 * m + 1) = S * m + (O + D) := by
  have e1 : (2 * m + 1) / 2 = m := by omega
  have e2 : (2 * m + 1) % 2 = 1 := by omega
  unfold valP
  rw [e1, e2, Int.mul_one]
  omega
theorem val_even (S O D m : Int) : valP S O D (2 * m) = S * m + O := by
  have e1 : (2 * m) / 2 = m := by omega
  have e2 : (2 * m) % 2 = 0 := by omega
  unfold valP
  rw [e1, e2, Int.mul_zero]
  omega
theorem odd_or_even (n : Int) : (∃ m, n = 2 * m + 1) ∨ ∃ m, n = 2 * m := by
  rcases (by omega : n % 2 = 1 ∨ n % 2 = 0) with h | h
  · exact .inl ⟨n / 2, by omega⟩
  · exact .inr ⟨n / 2, by omega⟩
theorem fb_first (S O D : Int) (h1 : -O ≤ 60) (h2 : -(O + D) ≤ 60) : FirstIs S O D (fbV S O D) := by
  have A := fa_is S (O + D) 0 (by omega)
  have B := fa_is S O 1 (by omega)
  unfold fbV
  rcases A with ⟨a, ea, a1, a2, a3, a4⟩ | ⟨ea, a1⟩
  · rcases B with ⟨b, eb, b1, b2, b3, b4⟩ | ⟨eb, b1⟩
    · rw [ea, eb]
      show FirstIs S O D (if 2 * a + 1 < 2 * b then .int (2 * a + 1) else .int (2 * b))
      by_cases c : 2 * a + 1 < 2 * b
      · rw [if_pos c]
        refine .inl ⟨_, rfl, by omega, by omega, by rw [val_odd]; exact a2, fun m m1 m2 => ?_⟩
        rcases odd_or_even m with ⟨t, rfl⟩ | ⟨t, rfl⟩
        · rw [val_odd]; exact a3 t (by omega) (by omega)
        · rw [val_even]; exact b3 t (by omega) (by omega)
      · rw [if_neg c]
        refine .inl ⟨_, rfl, by omega, by omega, by rw [val_even]; exact b2, fun m m1 m2 => ?_⟩
        rcases odd_or_even m with ⟨t, rfl⟩ | ⟨t, rfl⟩
        · rw [val_odd]; exact a3 t (by omega) (by omega)
        · rw [val_even]; exact b3 t (by omega) (by omega)
    · rw [ea, eb]
      show FirstIs S O D (.int (2 * a + 1))
      refine .inl ⟨_, rfl, by omega, by omega, by rw [val_odd]; exact a2, fun m m1 m2 => ?_⟩
      rcases odd_or_even m with ⟨t, rfl⟩ | ⟨t, rfl⟩
      · rw [val_odd]; exact a3 t (by omega) (by omega)
      · rw [val_even]; exact b1 t (by omega)
  · rcases B with ⟨b, eb, b1, b2, b3, b4⟩ | ⟨eb, b1⟩
    · rw [ea, eb]
      show FirstIs S O D (.int (2 * b))
      refine .inl ⟨_, rfl, by omega, by omega, by rw [val_even]; exact b2, fun m m1 m2 => ?_⟩
      rcases odd_or_even m with ⟨t, rfl⟩ | ⟨t, rfl⟩
      · rw [val_odd]; exact a1 t (by omega)
      · rw [val_even]; exact b3 t (by omega) (by omega)
    · rw [ea, eb]
      refine .inr ⟨rfl, fun m m1 m2 => ?_⟩
      rcases odd_or_even m with ⟨t, rfl⟩ | ⟨t, rfl⟩
      · rw [val_odd]; exact a1 t (by omega)
      · rw [val_even]; exact b1 t (by omega)
/-- at least this at all sizes -/
def nbB (S O D l : Int) : Bool := decide (0 ≤ S) && (decide (l ≤ O + D) && decide (l ≤ S + O))
theorem nb_all {S O D n : Int} (h : nbB S O D 0 = true) (hn : 1 ≤ n) : 0 ≤ valP S O D n := by
  unfold nbB at h
  simp only [Bool.and_eq_true, decide_eq_true_eq] at h
  obtain ⟨h0, h1, h2⟩ := h
  rcases odd_or_even n with ⟨t, rfl⟩ | ⟨t, rfl⟩
  · rw [val_odd]
    have := Int.mul_nonneg h0 (show 0 ≤ t by omega)
    omega
  · rw [val_even]
    have := Int.mul_le_mul_of_nonneg_left (show 1 ≤ t by omega) h0
    omega
end Pf
end
section
namespace Pf
open PySem PySem.Spec PyProof.Rows L2 Ow
theorem kit_ty_own {K : PySem.W.Frag} {C : Addr} {T : String} {b : Bool} (c : ClsF K C) (h : PySem.W.subIn K (.type T) (.ref C) = some b) : PySem.W.kitOne K (.type T) (.ref C) = some b :=
  kit_own c h (Bool.eq_false_iff.mpr fun q => by cases beq_iff_eq.mp q)
theorem eqv3 (s o d s' o' d' : Int) : PyData.eqv (.tuple [.int s, .int o, .int d]) (.tuple [.int s', .int o', .int d']) = decide (s = s' ∧ o = o' ∧ d = d') := by
  rw [Bool.eq_iff_iff]
  simp [PyData.eqv, PyData.eqvAll]
section
variable {P : Program} {w : World} {K : PySem.W.Frag} {mg : Str → Option Value} {base : Heap} {a : Adr}
set_option maxHeartbeats 4000000
theorem ok_p_slope (T : Txt K mg a) : FnR P w K mg base CX0 1 a.Place_slope (spPSlope a.Place) := by
  refine T.d_Place_slope.ok sc_Place_slope (fun _ _ _ _ _ _ us hl => match us, hl with | [_], _ => rfl) (fun vs H Q E h => by obtain ⟨p, s, o, d, rfl, _⟩ := h; rfl) (fun cdv A outer s H vs Q E hr h => ?_)
  obtain ⟨p, s, o, d, rfl, ⟨dx, hp⟩, k⟩ := h
  exact ⟨_, (pss_one (ps_ret (pe_fld (pv 0) rfl))), _, rfl, p, _, dx, _, _, rfl, hp, T.c_Place.cl, T.a_Place__slope, plF_slope _ _ _, k⟩
theorem ok_p_offset (T : Txt K mg a) : FnR P w K mg base CX0 1 a.Place_offset (spPOffset a.Place) := by
  refine T.d_Place_offset.ok sc_Place_offset (fun _ _ _ _ _ _ us hl => match us, hl with | [_], _ => rfl) (fun vs H Q E h => by obtain ⟨p, s, o, d, rfl, _⟩ := h; rfl) (fun cdv A outer s H vs Q E hr h => ?_)
  obtain ⟨p, s, o, d, rfl, ⟨dx, hp⟩, k⟩ := h
  exact ⟨_, (pss_one (ps_ret (pe_fld (pv 0) rfl))), _, rfl, p, _, dx, _, _, rfl, hp, T.c_Place.cl, T.a_Place__offset, plF_offset _ _ _, k⟩
theorem ok_p_odd (T : Txt K mg a) : FnR P w K mg base CX0 1 a.Place_odd (spPOdd a.Place) := by
  refine T.d_Place_odd.ok sc_Place_odd (fun _ _ _ _ _ _ us hl => match us, hl with | [_], _ => rfl) (fun vs H Q E h => by obtain ⟨p, s, o, d, rfl, _⟩ := h; rfl) (fun cdv A outer s H vs Q E hr h => ?_)
  obtain ⟨p, s, o, d, rfl, ⟨dx, hp⟩, k⟩ := h
  exact ⟨_, (pss_one (ps_ret (pe_fld (pv 0) rfl))), _, rfl, p, _, dx, _, _, rfl, hp, T.c_Place.cl, T.a_Place__odd, plF_odd _ _ _, k⟩
theorem ok_parts (T : Txt K mg a) : FnR P w K mg base CX0 3 a.parts_of (spPParts a.Place) := by
  have G_Place_slope : FnR P w K mg base CX0 1 a.Place_slope (spPSlope a.Place) := ok_p_slope T
  have G_Place_offset : FnR P w K mg base CX0 1 a.Place_offset (spPOffset a.Place) := ok_p_offset T
  have G_Place_odd : FnR P w K mg base CX0 1 a.Place_odd (spPOdd a.Place) := ok_p_odd T
  refine T.d_parts_of.ok sc_parts_of (fun _ _ _ _ _ _ us hl => match us, hl with | [_], _ => rfl) (fun vs H Q E h => by obtain ⟨p, s, o, d, rfl, _⟩ := h; rfl) (fun cdv A outer s H vs Q E hr h => ?_)
  obtain ⟨p, s, o, d, rfl, ⟨dx, hp⟩, k⟩ := h
  refine ⟨_, (pss_one (ps_ret (pe_tup (pa_cons (pe_propR (pv 0) T.c_Place.cl T.p_Place_slope G_Place_slope (hr.mono (by decide)) pass0) (pa_cons (pe_propR (pv 0) T.c_Place.cl T.p_Place_offset G_Place_offset (hr.mono (by decide)) pass0) (pa_cons (pe_propR (pv 0) T.c_Place.cl T.p_Place_odd G_Place_odd (hr.mono (by decide)) pass0) pa_nil)))))), ?_⟩
  exact ⟨_, rfl, p, dx, _, rfl, hp, p, s, o, d, rfl, ⟨dx, hp⟩, _, rfl, p, dx, _, rfl, hp, p, s, o, d, rfl, ⟨dx, hp⟩, _, rfl, p, dx, _, rfl, hp, p, s, o, d, rfl, ⟨dx, hp⟩, (by show 3 ≤ sizeLine; decide), k⟩
theorem ok_p_subP (T : Txt K mg a) : FnR P w K mg base CX0 4 a.Place_sub (spPAddP a.Place fun x y => x - y) := by
  have G_is_int : FnR P w K mg base CX0 1 a.is_int spIntI := ok_is_int T
  have G_Place_init : FnR P w K mg base CX0 2 a.Place_init (spPInit a.Place) := ok_p_init T
  have G_Place_slope : FnR P w K mg base CX0 1 a.Place_slope (spPSlope a.Place) := ok_p_slope T
  have G_Place_offset : FnR P w K mg base CX0 1 a.Place_offset (spPOffset a.Place) := ok_p_offset T
  have G_Place_odd : FnR P w K mg base CX0 1 a.Place_odd (spPOdd a.Place) := ok_p_odd T
  refine T.d_Place_sub.ok sc_Place_sub (fun _ _ _ _ _ _ us hl => match us, hl with | [_, _], _ => rfl) (fun vs H Q E h => by obtain ⟨p, q, s, o, d, s', o', d', rfl, _⟩ := h; rfl) (fun cdv A outer s H vs Q E hr h => ?_)
  obtain ⟨p, q, s, o, d, s', o', d', rfl, ⟨dx, hp⟩, ⟨dy, hq⟩, k⟩ := h
  refine ⟨_, (pss_cons (ps_if (pt_val (pe_callB call_isi (by rfl) T.n_isinstance (by decide +kernel) (pa_cons (pv 1) (pa_cons (pe_glob (v := .ref a.Place) rfl T.m_Place rfl) pa_nil))))
          (pss_one (ps_ret (pe_makeRR T.M_Place G_Place_init (hr.mono (by decide)) T.m_Place pass0 (pa_cons (pe_op op_sub (pe_fld (pv 0) rfl) (pe_propR (pv 1) T.c_Place.cl T.p_Place_slope G_Place_slope (hr.mono (by decide)) pass0)) (pa_cons (pe_op op_sub (pe_fld (pv 0) rfl) (pe_propR (pv 1) T.c_Place.cl T.p_Place_offset G_Place_offset (hr.mono (by decide)) pass0)) (pa_cons (pe_op op_sub (pe_fld (pv 0) rfl) (pe_propR (pv 1) T.c_Place.cl T.p_Place_odd G_Place_odd (hr.mono (by decide)) pass0)) pa_nil))))))
          pss_nil)
      (pss_cons (ps_if (pt_val (pe_callR G_is_int (hr.mono (by decide)) T.m_is_int T.k_is_int pass0 (pa_cons (pv 1) pa_nil)))
          (pss_one (ps_ret (pe_makeRR T.M_Place G_Place_init (hr.mono (by decide)) T.m_Place pass0 (pa_cons (pe_fld (pv 0) rfl) (pa_cons (pe_op op_sub (pe_fld (pv 0) rfl) (pv 1)) (pa_cons (pe_fld (pv 0) rfl) pa_nil))))))
          pss_nil)
      (pss_one ps_never))), ?_⟩
  refine ⟨_, rfl, _, _, _, _, _, rfl, .own _, T.c_Place.tyOf hq, kit_self, true, rfl, iteT ?_⟩
  exact ⟨_, rfl, p, _, dx, _, _, rfl, hp, T.c_Place.cl, T.a_Place__slope, plF_slope _ _ _, _, rfl, q, dy, _, rfl, hq, q, s', o', d', rfl, ⟨dy, hq⟩, _, _, rfl, rfl,
    _, rfl, p, _, dx, _, _, rfl, hp, T.c_Place.cl, T.a_Place__offset, plF_offset _ _ _, _, rfl, q, dy, _, rfl, hq, q, s', o', d', rfl, ⟨dy, hq⟩, _, _, rfl, rfl,
    _, rfl, p, _, dx, _, _, rfl, hp, T.c_Place.cl, T.a_Place__odd, plF_odd _ _ _, _, rfl, q, dy, _, rfl, hq, q, s', o', d', rfl, ⟨dy, hq⟩, _, _, rfl, rfl, newP_make k⟩
theorem same_new0 {H : Hp} {p : Addr} {o : HO} (h : H p = none) : Same H (upd H p o) := fun b u e => by rw [upd_ne (ne_of_none e h)]; exact e
theorem NewP.grow {C : Addr} {H H' : Hp} {s o d : Int} {Q : VK} (k : NewP C H s o d Q) (e : Same H H') : NewP C H' s o d Q := fun x H2 s2 nx px => k x H2 (e.trans s2) (e.free nx) px
def spMir : Sp := fun vs H Q _ => ∃ (t : Addr) (s o d : Int), vs = [.ref t] ∧ H t = some (.tup [.int s, .int o, .int d]) ∧ ∀ p, H p = none → Q (.ref p) (upd H p (.tup [.int (2 - s), .int (-o), .int (1 - d)]))
end
/-! ### places in order -/
theorem val_sub (s o d s' o' d' n : Int) : valP (s - s') (o - o') (d - d') n = valP s o d n - valP s' o' d' n := by
  unfold valP
  rw [Int.sub_mul, Int.sub_mul]
  omega
theorem ifNot {b : Bool} {A B : Prop} (h : b = true) (q : B) : if (!b) = true then A else B := by rw [h]; exact iteF q
theorem same_new {H : Hp} {p : Addr} {o : HO} (h : H p = none) : Same H (upd H p o) := fun b u e => by rw [upd_ne (ne_of_none e h)]; exact e
def spFA : Sp := fun vs H Q _ => ∃ s o l : Int, vs = [.int s, .int o, .int l] ∧ s.natAbs < 1073741824 ∧ Q (faV s o l) H
def spNb (C : Addr) : Sp := fun vs H Q _ => ∃ (p : Addr) (s o d l : Int), vs = [.ref p, .int l] ∧ PlaceAt H C p s o d ∧ ∀ H', Same H H' → Q (.bl (nbB s o d l)) H'
def spCmp (C : Addr) (g : Int → Int → Int → Int → Int → Int → Bool) : Sp := fun vs H Q _ => ∃ (p q : Addr) (s o d s' o' d' : Int), vs = [.ref p, .ref q] ∧ PlaceAt H C p s o d ∧ PlaceAt H C q s' o' d' ∧ ∀ H', Same H H' → Q (.bl (g s o d s' o' d')) H'
def spFB (C : Addr) : Sp := fun vs H Q _ => ∃ (p q : Addr) (s o d s' o' d' : Int), vs = [.ref p, .ref q] ∧ PlaceAt H C p s o d ∧ PlaceAt H C q s' o' d' ∧ (s - s').natAbs < 1073741824 ∧ ∀ H', Same H H' → Q (fbV (s - s') (o - o') (d - d')) H'
def gLe : Int → Int → Int → Int → Int → Int → Bool := fun s o d s' o' d' => nbB (s' - s) (o' - o) (d' - d) 0
def gLt : Int → Int → Int → Int → Int → Int → Bool := fun s o d s' o' d' => nbB (s' - s) (o' - o) (d' - d) 1
def gGe : Int → Int → Int → Int → Int → Int → Bool := fun s o d s' o' d' => nbB (s - s') (o - o') (d - d') 0
def gGt : Int → Int → Int → Int → Int → Int → Bool := fun s o d s' o' d' => nbB (s - s') (o - o') (d - d') 1
theorem nbB_eq (s o d l : Int) : (if decide (s ≥ 0) = true then (if decide (o + d ≥ l) = true then decide (s + o ≥ l) else false) else false) = nbB s o d l := by
  unfold nbB
  by_cases h0 : 0 ≤ s <;> by_cases h1 : l ≤ o + d <;> simp [h0, h1, GE.ge]
section
variable {P : Program} {w : World} {K : PySem.W.Frag} {mg : Str → Option Value} {base : Heap} {a : Adr}
set_option maxHeartbeats 4000000
theorem ok_fa (T : Txt K mg a) : FnR P w K mg base CX0 1 a.first_above spFA := by
  refine T.d_first_above.ok sc_first_above (fun _ _ _ _ _ _ us hl => match us, hl with | [_, _, _], _ => rfl) (fun vs H Q E h => by obtain ⟨s, o, l, rfl, _⟩ := h; rfl) (fun cdv A outer s H vs Q E hr h => ?_)
  obtain ⟨s, o, l, rfl, hs, k⟩ := h
  refine ⟨_, (pss_cons (ps_if (pt_cmpR op_gt (pe_op op_add (pe_op op_mul (pv 0) (pv 2)) (pv 1)) pe_int (nomark _))
          (pss_one (ps_ret (pv 2)))
          pss_nil)
      (pss_cons (ps_if (pt_cmpR op_le (pv 0) pe_int (nomark _))
          (pss_one (ps_ret pe_non))
          pss_nil)
      (pss_one (ps_ret (pe_op op_add (pe_op op_fdivN (pe_un un_neg (pv 1)) (pv 0)) pe_int))))), ?_⟩
  unfold faV at k
  refine ⟨_, rfl, _, rfl, _, _, rfl, rfl, .inl ⟨by omega, by omega⟩, _, rfl, _, _, rfl, rfl, _, _, rfl, rfl, _, rfl, ?_⟩
  refine ite2 (fun z => ?_) fun z => ?_
  · have z := of_decide_eq_true z
    rw [if_pos z] at k
    exact ⟨_, rfl, k⟩
  · have z : ¬ (0 < s * l + o) := fun q => z (decide_eq_true q)
    rw [if_neg z] at k
    refine ⟨_, rfl, _, _, rfl, rfl, _, rfl, ?_⟩
    refine ite2 (fun y => ?_) fun y => ?_
    · have y := of_decide_eq_true y
      rw [if_pos y] at k
      exact k
    · have y : ¬ (s ≤ 0) := fun q => y (decide_eq_true q)
      rw [if_neg y] at k
      refine ⟨_, rfl, _, rfl, _, rfl, _, _, rfl, rfl, ⟨by omega, hs⟩, _, _, rfl, rfl, ?_⟩
      rw [Int.fdiv_eq_ediv_of_nonneg _ (by omega)]
      exact k
theorem ok_nb (T : Txt K mg a) : FnR P w K mg base CX0 4 a.never_below (spNb a.Place) := by
  have G_parts_of : FnR P w K mg base CX0 3 a.parts_of (spPParts a.Place) := ok_parts T
  refine T.d_never_below.ok sc_never_below (fun _ _ _ _ _ _ us hl => match us, hl with | [_, _], _ => rfl) (fun vs H Q E h => by obtain ⟨p, s, o, d, l, rfl, _⟩ := h; rfl) (fun cdv A outer s H vs Q E hr h => ?_)
  obtain ⟨p, s, o, d, l, rfl, hp, k⟩ := h
  refine ⟨_, (pss_cons (ps_asg (pe_callR G_parts_of (hr.mono (by decide)) T.m_parts_of T.k_parts_of pass0 (pa_cons (pv 0) pa_nil)) (pg_tup rfl (pgs_cons (pg_name (i := 2) sc_never_below.nd rfl (Or.inl rfl)) (pgs_cons (pg_name (i := 3) sc_never_below.nd rfl (Or.inl rfl)) (pgs_cons (pg_name (i := 4) sc_never_below.nd rfl (Or.inl rfl)) pgs_nil)))))
      (pss_one (ps_ret (pe_and (pe_cmpR op_ge (pv 2) pe_int (nomark _)) (pe_and (pe_cmpR op_ge (pe_op op_add (pv 3) (pv 4)) (pv 1) (nomark _)) (pe_one (pe_cmpR op_ge (pe_op op_add (pv 2) (pv 3)) (pv 1) (nomark _)))))))), ?_⟩
  refine ⟨_, rfl, p, s, o, d, rfl, hp, fun t ht => ?_⟩
  refine ⟨t, _, rfl, SqT.of upd_same, rfl, ?_⟩
  have k := k (upd H t (.tup [.int s, .int o, .int d])) (same_new ht)
  rw [← nbB_eq] at k
  refine ⟨_, _, rfl, _, _, rfl, _, _, rfl, rfl, ?_⟩
  refine ⟨_, rfl, _, _, rfl, rfl, _, rfl, ?_⟩
  refine ite2 (fun z => ?_) fun z => ?_
  · rw [if_pos z] at k
    refine ⟨_, rfl, _, rfl, _, _, rfl, rfl, _, rfl, _, _, rfl, rfl, _, rfl, ?_⟩
    refine ite2 (fun y => ?_) fun y => ?_
    · rw [if_pos y] at k
      exact ⟨_, rfl, _, rfl, _, _, rfl, rfl, _, rfl, _, _, rfl, rfl, k⟩
    · rw [if_neg y] at k
      exact k
  · rw [if_neg z] at k
    exact k
theorem ok_p_le (T : Txt K mg a) : FnR P w K mg base CX0 5 a.Place_le (spCmp a.Place gLe) := by
  have G_subP : FnR P w K mg base CX0 4 a.Place_sub (spPAddP a.Place fun x y => x - y) := ok_p_subP T
  have G_never_below : FnR P w K mg base CX0 4 a.never_below (spNb a.Place) := ok_nb T
  refine T.d_Place_le.ok sc_Place_le (fun _ _ _ _ _ _ us hl => match us, hl with | [_, _], _ => rfl) (fun vs H Q E h => by obtain ⟨p, q, s, o, d, s', o', d', rfl, _⟩ := h; rfl) (fun cdv A outer s H vs Q E hr h => ?_)
  obtain ⟨p, q, s, o, d, s', o', d', rfl, ⟨dx, hp⟩, ⟨dy, hq⟩, k⟩ := h
  refine ⟨_, (pss_cons (ps_if (pt_not (pt_val (pe_callB call_isi (by rfl) T.n_isinstance (by decide +kernel) (pa_cons (pv 1) (pa_cons (pe_glob (v := .ref a.Place) rfl T.m_Place rfl) pa_nil)))))
          (pss_one ps_never)
          pss_nil)
      (pss_one (ps_ret (pe_callR G_never_below (hr.mono (by decide)) T.m_never_below T.k_never_below pass0 (pa_cons (pe_op (op_bin (op := .Sub) T.s_Place_first T.o_sub T.f_Place_sub G_subP (hr.mono (by decide)) pass0) (pv 1) (pv 0)) (pa_cons pe_int pa_nil)))))), ?_⟩
  refine ⟨_, rfl, _, _, _, _, _, rfl, .own _, T.c_Place.tyOf hq, kit_self, true, rfl, iteF ?_⟩
  refine ⟨_, rfl, _, rfl, q, p, rfl, rfl, PlaceAt.ins ⟨dy, hq⟩, PlaceAt.ins ⟨dx, hp⟩, q, p, _, _, _, _, _, _, rfl, ⟨dy, hq⟩, ⟨dx, hp⟩, fun x H1 s1 nx px => ?_⟩
  exact ⟨x, _, _, _, _, rfl, px, fun H2 s2 => k H2 (s1.trans s2)⟩
theorem ok_p_lt (T : Txt K mg a) : FnR P w K mg base CX0 5 a.Place_lt (spCmp a.Place gLt) := by
  have G_subP : FnR P w K mg base CX0 4 a.Place_sub (spPAddP a.Place fun x y => x - y) := ok_p_subP T
  have G_never_below : FnR P w K mg base CX0 4 a.never_below (spNb a.Place) := ok_nb T
  refine T.d_Place_lt.ok sc_Place_lt (fun _ _ _ _ _ _ us hl => match us, hl with | [_, _], _ => rfl) (fun vs H Q E h => by obtain ⟨p, q, s, o, d, s', o', d', rfl, _⟩ := h; rfl) (fun cdv A outer s H vs Q E hr h => ?_)
  obtain ⟨p, q, s, o, d, s', o', d', rfl, ⟨dx, hp⟩, ⟨dy, hq⟩, k⟩ := h
  refine ⟨_, (pss_cons (ps_if (pt_not (pt_val (pe_callB call_isi (by rfl) T.n_isinstance (by decide +kernel) (pa_cons (pv 1) (pa_cons (pe_glob (v := .ref a.Place) rfl T.m_Place rfl) pa_nil)))))
          (pss_one ps_never)
          pss_nil)
      (pss_one (ps_ret (pe_callR G_never_below (hr.mono (by decide)) T.m_never_below T.k_never_below pass0 (pa_cons (pe_op (op_bin (op := .Sub) T.s_Place_first T.o_sub T.f_Place_sub G_subP (hr.mono (by decide)) pass0) (pv 1) (pv 0)) (pa_cons pe_int pa_nil)))))), ?_⟩
  refine ⟨_, rfl, _, _, _, _, _, rfl, .own _, T.c_Place.tyOf hq, kit_self, true, rfl, iteF ?_⟩
  refine ⟨_, rfl, _, rfl, q, p, rfl, rfl, PlaceAt.ins ⟨dy, hq⟩, PlaceAt.ins ⟨dx, hp⟩, q, p, _, _, _, _, _, _, rfl, ⟨dy, hq⟩, ⟨dx, hp⟩, fun x H1 s1 nx px => ?_⟩
  exact ⟨x, _, _, _, _, rfl, px, fun H2 s2 => k H2 (s1.trans s2)⟩
theorem ok_p_ge (T : Txt K mg a) : FnR P w K mg base CX0 5 a.Place_ge (spCmp a.Place gGe) := by
  have G_subP : FnR P w K mg base CX0 4 a.Place_sub (spPAddP a.Place fun x y => x - y) := ok_p_subP T
  have G_never_below : FnR P w K mg base CX0 4 a.never_below (spNb a.Place) := ok_nb T
  refine T.d_Place_ge.ok sc_Place_ge (fun _ _ _ _ _ _ us hl => match us, hl with | [_, _], _ => rfl) (fun vs H Q E h => by obtain ⟨p, q, s, o, d, s', o', d', rfl, _⟩ := h; rfl) (fun cdv A outer s H vs Q E hr h => ?_)
  obtain ⟨p, q, s, o, d, s', o', d', rfl, ⟨dx, hp⟩, ⟨dy, hq⟩, k⟩ := h
  refine ⟨_, (pss_cons (ps_if (pt_not (pt_val (pe_callB call_isi (by rfl) T.n_isinstance (by decide +kernel) (pa_cons (pv 1) (pa_cons (pe_glob (v := .ref a.Place) rfl T.m_Place rfl) pa_nil)))))
          (pss_one ps_never)
          pss_nil)
      (pss_one (ps_ret (pe_callR G_never_below (hr.mono (by decide)) T.m_never_below T.k_never_below pass0 (pa_cons (pe_op (op_bin (op := .Sub) T.s_Place_first T.o_sub T.f_Place_sub G_subP (hr.mono (by decide)) pass0) (pv 0) (pv 1)) (pa_cons pe_int pa_nil)))))), ?_⟩
  refine ⟨_, rfl, _, _, _, _, _, rfl, .own _, T.c_Place.tyOf hq, kit_self, true, rfl, iteF ?_⟩
  refine ⟨_, rfl, _, rfl, p, q, rfl, rfl, PlaceAt.ins ⟨dx, hp⟩, PlaceAt.ins ⟨dy, hq⟩, p, q, _, _, _, _, _, _, rfl, ⟨dx, hp⟩, ⟨dy, hq⟩, fun x H1 s1 nx px => ?_⟩
  exact ⟨x, _, _, _, _, rfl, px, fun H2 s2 => k H2 (s1.trans s2)⟩
theorem ok_p_gt (T : Txt K mg a) : FnR P w K mg base CX0 5 a.Place_gt (spCmp a.Place gGt) := by
  have G_subP : FnR P w K mg base CX0 4 a.Place_sub (spPAddP a.Place fun x y => x - y) := ok_p_subP T
  have G_never_below : FnR P w K mg base CX0 4 a.never_below (spNb a.Place) := ok_nb T
  refine T.d_Place_gt.ok sc_Place_gt (fun _ _ _ _ _ _ us hl => match us, hl with | [_, _], _ => rfl) (fun vs H Q E h => by obtain ⟨p, q, s, o, d, s', o', d', rfl, _⟩ := h; rfl) (fun cdv A outer s H vs Q E hr h => ?_)
  obtain ⟨p, q, s, o, d, s', o', d', rfl, ⟨dx, hp⟩, ⟨dy, hq⟩, k⟩ := h
  refine ⟨_, (pss_cons (ps_if (pt_not (pt_val (pe_callB call_isi (by rfl) T.n_isinstance (by decide +kernel) (pa_cons (pv 1) (pa_cons (pe_glob (v := .ref a.Place) rfl T.m_Place rfl) pa_nil)))))
          (pss_one ps_never)
          pss_nil)
      (pss_one (ps_ret (pe_callR G_never_below (hr.mono (by decide)) T.m_never_below T.k_never_below pass0 (pa_cons (pe_op (op_bin (op := .Sub) T.s_Place_first T.o_sub T.f_Place_sub G_subP (hr.mono (by decide)) pass0) (pv 0) (pv 1)) (pa_cons pe_int pa_nil)))))), ?_⟩
  refine ⟨_, rfl, _, _, _, _, _, rfl, .own _, T.c_Place.tyOf hq, kit_self, true, rfl, iteF ?_⟩
  refine ⟨_, rfl, _, rfl, p, q, rfl, rfl, PlaceAt.ins ⟨dx, hp⟩, PlaceAt.ins ⟨dy, hq⟩, p, q, _, _, _, _, _, _, rfl, ⟨dx, hp⟩, ⟨dy, hq⟩, fun x H1 s1 nx px => ?_⟩
  exact ⟨x, _, _, _, _, rfl, px, fun H2 s2 => k H2 (s1.trans s2)⟩
theorem fb_nat {s o l a : Int} (h : faV s o l = .int a) (hl : 0 ≤ l) : 0 ≤ a := by
  rcases fa_is s o l hl with ⟨b, e, b1, _⟩ | ⟨e, _⟩
  · rw [h] at e
    cases e
    omega
  · rw [h] at e
    cases e
theorem fa_cases (s o l : Int) (hl : 0 ≤ l) : faV s o l = .non ∨ ∃ a, faV s o l = .int a := by
  rcases fa_is s o l hl with ⟨b, e, _⟩ | ⟨e, _⟩
  · exact .inr ⟨b, e⟩
  · exact .inl e
theorem ok_fb (T : Txt K mg a) : FnR P w K mg base CX0 5 a.first_beyond (spFB a.Place) := by
  have G_parts_of : FnR P w K mg base CX0 3 a.parts_of (spPParts a.Place) := ok_parts T
  have G_subP : FnR P w K mg base CX0 4 a.Place_sub (spPAddP a.Place fun x y => x - y) := ok_p_subP T
  have G_first_above : FnR P w K mg base CX0 1 a.first_above spFA := ok_fa T
  refine T.d_first_beyond.ok sc_first_beyond (fun _ _ _ _ _ _ us hl => match us, hl with | [_, _], _ => rfl) (fun vs H Q E h => by obtain ⟨p, q, s, o, d, s', o', d', rfl, _⟩ := h; rfl) (fun cdv A outer s H vs Q E hr h => ?_)
  obtain ⟨p, q, s, o, d, s', o', d', rfl, hp, hq, hs, k⟩ := h
  refine ⟨_, (pss_cons (ps_asg (pe_callR G_parts_of (hr.mono (by decide)) T.m_parts_of T.k_parts_of pass0 (pa_cons (pe_op (op_bin (op := .Sub) T.s_Place_first T.o_sub T.f_Place_sub G_subP (hr.mono (by decide)) pass0) (pv 0) (pv 1)) pa_nil)) (pg_tup rfl (pgs_cons (pg_name (i := 2) sc_first_beyond.nd rfl (Or.inl rfl)) (pgs_cons (pg_name (i := 3) sc_first_beyond.nd rfl (Or.inl rfl)) (pgs_cons (pg_name (i := 4) sc_first_beyond.nd rfl (Or.inl rfl)) pgs_nil)))))
      (pss_cons (ps_set (i := 5) sc_first_beyond.nd rfl (Or.inl rfl) (pe_callR G_first_above (hr.mono (by decide)) T.m_first_above T.k_first_above pass0 (pa_cons (pv 2) (pa_cons (pe_op op_add (pv 3) (pv 4)) (pa_cons pe_int pa_nil)))))
      (pss_cons (ps_set (i := 6) sc_first_beyond.nd rfl (Or.inl rfl) (pe_callR G_first_above (hr.mono (by decide)) T.m_first_above T.k_first_above pass0 (pa_cons (pv 2) (pa_cons (pv 3) (pa_cons pe_int pa_nil)))))
      (pss_cons (ps_if (pt_cmpR op_isN (pv 5) pe_non (nomark _))
          (pss_one (ps_ret (pe_ifExp (pt_cmpR op_isN (pv 6) pe_non (nomark _)) pe_non (pe_op op_mul pe_int (pv 6)))))
          pss_nil)
      (pss_cons (ps_if (PW.pt (pw_or (pt_cmpR op_isN (pv 6) pe_non (nomark _)) (pw_or1 (pt_cmpR op_lt (pe_op op_add (pe_op op_mul pe_int (pv 5)) pe_int) (pe_op op_mul pe_int (pv 6)) (nomark _)))))
          (pss_one (ps_ret (pe_op op_add (pe_op op_mul pe_int (pv 5)) pe_int)))
          pss_nil)
      (pss_one (ps_ret (pe_op op_mul pe_int (pv 6))))))))), ?_⟩
  refine ⟨_, rfl, _, rfl, p, q, rfl, rfl, hp.ins, hq.ins, p, q, _, _, _, _, _, _, rfl, hp, hq, fun x H1 s1 nx px => ?_⟩
  refine ⟨x, _, _, _, rfl, px, fun t ht => ?_⟩
  refine ⟨t, _, rfl, SqT.of upd_same, rfl, ?_⟩
  refine ⟨_, _, rfl, _, _, rfl, _, _, rfl, rfl, ?_⟩
  have k := k _ (s1.trans (same_new (o := .tup [.int (s - s'), .int (o - o'), .int (d - d')]) ht))
  clear px
  generalize upd H1 t (.tup [.int (s - s'), .int (o - o'), .int (d - d')]) = H2 at *
  refine ⟨_, rfl, _, rfl, _, rfl, _, _, rfl, rfl, _, _, _, rfl, hs, ?_⟩
  refine ⟨_, rfl, _, rfl, _, _, _, rfl, hs, ?_⟩
  show tSeq _ _ _ _ H2
  unfold fbV at k
  rcases fa_cases (s - s') (o - o' + (d - d')) 0 (by omega) with ea | ⟨x, ea⟩ <;> rcases fa_cases (s - s') (o - o') 1 (by omega) with eb | ⟨y, eb⟩ <;> rw [ea, eb] at k
  all_goals rw [ea, eb]
  · refine ⟨_, rfl, rfl, _, rfl, ite2 (fun _ => ?_) fun z => absurd (decide_eq_true rfl) z⟩
    exact ⟨_, rfl, rfl, _, rfl, ite2 (fun _ => k) fun z => absurd (decide_eq_true rfl) z⟩
  · refine ⟨_, rfl, rfl, _, rfl, ite2 (fun _ => ?_) fun z => absurd (decide_eq_true rfl) z⟩
    exact ⟨_, rfl, rfl, _, rfl, ite2 (fun z => by cases of_decide_eq_true z) fun _ => ⟨_, rfl, _, _, rfl, rfl, .inl ⟨by decide, by decide⟩, k⟩⟩
  · refine ⟨_, rfl, rfl, _, rfl, ite2 (fun z => by cases of_decide_eq_true z) fun _ => ?_⟩
    exact ⟨_, rfl, rfl, _, rfl, ite2 (fun _ => ⟨_, rfl, _, _, rfl, rfl, .inl ⟨by decide, by decide⟩, _, _, rfl, rfl, k⟩) fun z => absurd (decide_eq_true rfl) z⟩
  · refine ⟨_, rfl, rfl, _, rfl, ite2 (fun z => by cases of_decide_eq_true z) fun _ => ?_⟩
    refine ⟨_, rfl, rfl, _, rfl, ite2 (fun z => by cases of_decide_eq_true z) fun _ => ?_⟩
    refine ⟨_, rfl, _, _, rfl, rfl, .inl ⟨by decide, by decide⟩, _, _, rfl, rfl, _, rfl, _, _, rfl, rfl, .inl ⟨by decide, by decide⟩, _, _, rfl, rfl, _, rfl, ?_⟩
    refine ite2 (fun z => ?_) fun z => ?_
    · have k : Q (if 2 * x + 1 < 2 * y then V.int (2 * x + 1) else V.int (2 * y)) H2 := k
      rw [if_pos (of_decide_eq_true z)] at k
      exact ⟨_, rfl, _, _, rfl, rfl, .inl ⟨by decide, by decide⟩, _, _, rfl, rfl, k⟩
    · have k : Q (if 2 * x + 1 < 2 * y then V.int (2 * x + 1) else V.int (2 * y)) H2 := k
      rw [if_neg fun q => z (decide_eq_true q)] at k
      exact ⟨_, rfl, _, _, rfl, rfl, .inl ⟨by decide, by decide⟩, k⟩
end
end Pf
end
section
namespace Pf
open PySem PySem.Spec PyProof.Rows L2 Ow StX
/-! ### the law's own defs -/
def SameBut (d : Addr) (H H' : Hp) : Prop := ∀ b o, b ≠ d → H b = some o → H' b = some o
theorem SameBut.of {d : Addr} {H H' : Hp} (s : Same H H') : SameBut d H H' := fun b o _ e => s b o e
theorem SameBut.trans {d : Addr} {H H1 H2 : Hp} (x : SameBut d H H1) (y : SameBut d H1 H2) : SameBut d H H2 := fun b o n e => y b o n (x b o n e)
theorem SameBut.upd {d : Addr} {H : Hp} {o : HO} : SameBut d H (upd H d o) := fun b u n e => by rw [upd_ne n]; exact e
/-- a place's parts as they are drawn -/
def Sm (s o e : Int) : Prop := s.natAbs ≤ 8 ∧ o.natAbs ≤ 11 ∧ e.natAbs ≤ 4
theorem cm_small {s n : Int} {b : Nat} (hs : s.natAbs ≤ b) (hb : b < 2 ^ 10) (hn : n.natAbs < 2 ^ 10) : CMulW s n := wide_mul (a := 10) (b := 10) (Nat.lt_of_le_of_lt hs hb) hn (by decide) (by decide) (by decide)
def spAt (K : PySem.W.Frag) : Sp := fun vs H Q _ => ∃ (l : Addr) (s o d n : Int), vs = [.ref l, .int n] ∧ SqL K H l [.int s, .int o, .int d] ∧ CMulW s (n / 2) ∧ CMulW d (n % 2) ∧ Q (.int (valP s o d n)) H
def spPlaceOf (K : PySem.W.Frag) (C : Addr) : Sp := fun vs H Q _ => ∃ (l : Addr) (s o d : Int), vs = [.ref l] ∧ SqL K H l [.int s, .int o, .int d] ∧ NewP C H s o d Q
/-- the parts s, o, e stand at l -/
def Pt (H : Hp) (l : Addr) (s o e : Int) : Prop := H l = some (.lst [.int s, .int o, .int e]) ∧ Sm s o e
theorem Pt.same {H H' : Hp} {l : Addr} {s o e : Int} (h : Pt H l s o e) (m : Same H H') : Pt H' l s o e := ⟨m _ _ h.1, h.2⟩
def spDrawn : Sp := fun vs H Q _ => ∃ (d : Addr), vs = [.ref d] ∧ Bag H d ∧ ∀ (l : Addr) (H' : Hp) (s o e : Int), SameBut d H H' → Bag H' d → Pt H' l s o e → s.natAbs ≤ 4 → o.natAbs ≤ 9 → e.natAbs ≤ 2 → Q (.ref l) H'
def spNear : Sp := fun vs H Q _ => ∃ (d l0 : Addr) (s0 o0 e0 : Int), vs = [.ref d, .ref l0] ∧ Bag H d ∧ H l0 = some (.lst [.int s0, .int o0, .int e0]) ∧ s0.natAbs ≤ 4 ∧ o0.natAbs ≤ 9 ∧ e0.natAbs ≤ 2 ∧ ∀ (l : Addr) (H' : Hp) (s o e : Int), SameBut d H H' → Bag H' d → Pt H' l s o e → Q (.ref l) H'
def spGap (K : PySem.W.Frag) : Sp := fun vs H Q _ => ∃ (l l' : Addr) (s o e s' o' e' n : Int), vs = [.ref l, .ref l', .int n] ∧ Pt H l s o e ∧ Pt H l' s' o' e' ∧ 0 ≤ n ∧ n ≤ 200 ∧ Q (.int (valP (s - s') (o - o') (e - e') n)) H
def spAlw : Sp := fun vs H Q _ => ∃ (l l' : Addr) (s o e s' o' e' m : Int), vs = [.ref l, .ref l', .int m] ∧ Pt H l s o e ∧ Pt H l' s' o' e' ∧ Q (.bl (nbB (s' - s) (o' - o) (e' - e) (-m))) H
def spFirst : Sp := fun vs H Q _ => ∃ (l l' : Addr) (s o e s' o' e' : Int), vs = [.ref l, .ref l'] ∧ Pt H l s o e ∧ Pt H l' s' o' e' ∧ Q (fbV (s - s') (o - o') (e - e')) H
theorem near_at {z : Int} (h0 : 0 ≤ z) (h1 : z < 4) : ∃ f : Int, f.natAbs ≤ 1 ∧ atI [.int 0, .int 0, .int 1, .int (-1)] z = some (V.int f) := by
  obtain ⟨k, rfl⟩ : ∃ k : Nat, z = (k : Int) := ⟨z.toNat, by omega⟩
  have hk : k < 4 := by omega
  match k, hk with
  | 0, _ => exact ⟨0, by decide, atI_nat rfl⟩
  | 1, _ => exact ⟨0, by decide, atI_nat rfl⟩
  | 2, _ => exact ⟨1, by decide, atI_nat rfl⟩
  | 3, _ => exact ⟨-1, by decide, atI_nat rfl⟩
theorem alw_eq (s o e s' o' e' m : Int) (h : ¬ (s > s')) : (if decide (valP (s - s') (o - o') (e - e') 1 ≤ m) = true then decide (valP (s - s') (o - o') (e - e') 2 ≤ m) else false) = nbB (s' - s) (o' - o) (e' - e) (-m) := by
  have e1 : valP (s - s') (o - o') (e - e') 1 = (o - o') + (e - e') := by unfold valP; omega
  have e2 : valP (s - s') (o - o') (e - e') 2 = (s - s') + (o - o') := by unfold valP; omega
  rw [e1, e2]
  unfold nbB
  have c0 : 0 ≤ s' - s := by omega
  by_cases h1 : -m ≤ o' - o + (e' - e)
  · have q1 : o - o' + (e - e') ≤ m := by omega
    by_cases h2 : -m ≤ s' - s + (o' - o)
    · have q2 : s - s' + (o - o') ≤ m := by omega
      simp only [decide_eq_true c0, decide_eq_true h1, decide_eq_true h2, decide_eq_true q1, decide_eq_true q2, Bool.and_self, if_true]
    · have q2 : ¬ (s - s' + (o - o') ≤ m) := by omega
      simp [c0, h1, h2, q1, q2]
  · have q1 : ¬ (o - o' + (e - e') ≤ m) := by omega
    simp [c0, h1, q1]
section
variable {P : Program} {w : World} {K : PySem.W.Frag} {mg : Str → Option Value} {base : Heap} {a : Adr}
set_option maxHeartbeats 4000000
theorem ok_at (T : Txt K mg a) : FnR P w K mg base CX0 1 a._law_at (spAt K) := by
  refine T.d__law_at.ok sc__law_at (fun _ _ _ _ _ _ us hl => match us, hl with | [_, _], _ => rfl) (fun vs H Q E h => by obtain ⟨l, s, o, d, n, rfl, _⟩ := h; rfl) (fun cdv A outer s H vs Q E hr h => ?_)
  obtain ⟨l, s, o, d, n, rfl, hl, hm1, hm2, k⟩ := h
  refine ⟨_, (pss_cons (ps_set (i := 2) sc__law_at.nd rfl (Or.inl rfl) (pe_op op_fdiv (pv 1) pe_int))
      (pss_one (ps_ret (pe_op op_add (pe_op op_add (pe_op op_mulW (pe_ix ix_list (pv 0) pe_int (fun _ _ => rfl)) (pv 2)) (pe_ix ix_list (pv 0) pe_int (fun _ _ => rfl))) (pe_op op_mulW (pe_ix ix_list (pv 0) pe_int (fun _ _ => rfl)) (pe_op op_sub (pv 1) (pe_op op_mul pe_int (pv 2)))))))), ?_⟩
  have en : n - 2 * (n / 2) = n % 2 := by omega
  refine ⟨_, rfl, _, _, rfl, rfl, ⟨by decide, by decide⟩, ?_⟩
  refine ⟨_, rfl, l, _, _, _, rfl, rfl, hl, atI_nat (j := 0) rfl, _, rfl, _, _, rfl, rfl, hm1, _, rfl, l, _, _, _, rfl, rfl, hl, atI_nat (j := 1) rfl, _, _, rfl, rfl,
    _, rfl, l, _, _, _, rfl, rfl, hl, atI_nat (j := 2) rfl, _, rfl, _, rfl, _, _, rfl, rfl, .inl ⟨by decide, by decide⟩, _, _, rfl, rfl, ?_⟩
  refine ⟨_, _, rfl, rfl, (by show CMulW d (n - 2 * (n / 2)); rw [en]; exact hm2), _, _, rfl, rfl, ?_⟩
  show Q (.int (s * (n / 2) + o + d * (n - 2 * (n / 2)))) H
  rw [en]
  exact k
theorem ok_placeOf (T : Txt K mg a) : FnR P w K mg base CX0 4 a._law_place (spPlaceOf K a.Place) := by
  have G_Place_init : FnR P w K mg base CX0 2 a.Place_init (spPInit a.Place) := ok_p_init T
  refine T.d__law_place.ok sc__law_place (fun _ _ _ _ _ _ us hl => match us, hl with | [_], _ => rfl) (fun vs H Q E h => by obtain ⟨l, s, o, d, rfl, _⟩ := h; rfl) (fun cdv A outer s H vs Q E hr h => ?_)
  obtain ⟨l, s, o, d, rfl, hl, k⟩ := h
  exact ⟨_, (pss_one (ps_ret (pe_makeRR T.M_Place G_Place_init (hr.mono (by decide)) T.m_Place pass0 (pa_cons (pe_ix ix_list (pv 0) pe_int (fun _ _ => rfl)) (pa_cons (pe_ix ix_list (pv 0) pe_int (fun _ _ => rfl)) (pa_cons (pe_ix ix_list (pv 0) pe_int (fun _ _ => rfl)) pa_nil)))))), _, rfl, l, _, _, _, rfl, rfl, hl, atI_nat (j := 0) rfl, _, rfl, l, _, _, _, rfl, rfl, hl, atI_nat (j := 1) rfl, _, rfl, l, _, _, _, rfl, rfl, hl, atI_nat (j := 2) rfl, newP_make k⟩
theorem ok_drawn (T : Txt K mg a) : FnR P w K mg base CX0 2 a._law_drawn spDrawn := by
  have G__law_draw : FnR P w K mg base CX0 1 a._law_draw spDraw := ok_draw T
  refine T.d__law_drawn.ok sc__law_drawn (fun _ _ _ _ _ _ us hl => match us, hl with | [_], _ => rfl) (fun vs H Q E h => by obtain ⟨d, rfl, _⟩ := h; rfl) (fun cdv A outer s H vs Q E hr h => ?_)
  obtain ⟨d, rfl, B, k⟩ := h
  refine ⟨_, (pss_one (ps_ret (pe_lst (pa_cons (pe_op op_sub (pe_callR G__law_draw (hr.mono (by decide)) T.m__law_draw T.k__law_draw pass0 (pa_cons (pv 0) (pa_cons pe_int pa_nil))) pe_int) (pa_cons (pe_op op_sub (pe_callR G__law_draw (hr.mono (by decide)) T.m__law_draw T.k__law_draw pass0 (pa_cons (pv 0) (pa_cons pe_int pa_nil))) pe_int) (pa_cons (pe_op op_sub (pe_callR G__law_draw (hr.mono (by decide)) T.m__law_draw T.k__law_draw pass0 (pa_cons (pv 0) (pa_cons pe_int pa_nil))) pe_int) pa_nil)))))), ?_⟩
  refine ⟨_, rfl, d, 7, rfl, B, by decide, by decide, fun z1 o1 a0 a1 B2 => ?_⟩
  refine ⟨_, _, rfl, rfl, _, rfl, d, 19, rfl, B2, by decide, by decide, fun z2 o2 b0 b1 B3 => ?_⟩
  refine ⟨_, _, rfl, rfl, _, rfl, d, 4, rfl, B3, by decide, by decide, fun z3 o3 c0 c1 B4 => ?_⟩
  refine ⟨_, _, rfl, rfl, (by show 3 ≤ sizeLine; decide), fun l hl => ?_⟩
  exact k l _ _ _ _ (SameBut.upd.trans (SameBut.upd.trans (SameBut.upd.trans (SameBut.of (same_new hl))))) (B4.same (same_new hl)) ⟨upd_same, by omega, by omega, by omega⟩ (by omega) (by omega) (by omega)
theorem ok_near (T : Txt K mg a) : FnR P w K mg base CX0 2 a._law_near spNear := by
  have G__law_draw : FnR P w K mg base CX0 1 a._law_draw spDraw := ok_draw T
  refine T.d__law_near.ok sc__law_near (fun _ _ _ _ _ _ us hl => match us, hl with | [_, _], _ => rfl) (fun vs H Q E h => by obtain ⟨d, l0, s0, o0, e0, rfl, _⟩ := h; rfl) (fun cdv A outer s H vs Q E hr h => ?_)
  obtain ⟨d, l0, s0, o0, e0, rfl, B, h0, hs, ho, he, k⟩ := h
  refine ⟨_, (pss_cons (ps_set (i := 2) sc__law_near.nd rfl (Or.inl rfl) (pe_op op_add (pe_ix ix_list (pv 1) pe_int (fun _ _ => rfl)) (pe_ix ix_list (pe_lst (pa_cons pe_int (pa_cons pe_int (pa_cons pe_int (pa_cons (pe_un un_neg pe_int) pa_nil))))) (pe_callR G__law_draw (hr.mono (by decide)) T.m__law_draw T.k__law_draw pass0 (pa_cons (pv 0) (pa_cons pe_int pa_nil))) (fun _ _ => rfl))))
      (pss_one (ps_ret (pe_lst (pa_cons (pv 2) (pa_cons (pe_op op_sub (pe_op op_add (pe_ix ix_list (pv 1) pe_int (fun _ _ => rfl)) (pe_callR G__law_draw (hr.mono (by decide)) T.m__law_draw T.k__law_draw pass0 (pa_cons (pv 0) (pa_cons pe_int pa_nil)))) pe_int) (pa_cons (pe_op op_sub (pe_op op_add (pe_ix ix_list (pv 1) pe_int (fun _ _ => rfl)) (pe_callR G__law_draw (hr.mono (by decide)) T.m__law_draw T.k__law_draw pass0 (pa_cons (pv 0) (pa_cons pe_int pa_nil)))) pe_int) pa_nil))))))), ?_⟩
  refine ⟨_, rfl, l0, _, _, _, rfl, rfl, SqL.of h0, atI_nat (j := 0) rfl, ?_⟩
  refine ⟨_, rfl, (by show 4 ≤ sizeLine; decide), fun p hp => ?_⟩
  have s0' := same_new (o := .lst [.int 0, .int 0, .int 1, .int (-1)]) hp
  have B0 := B.same s0'
  have h1 := s0' _ _ h0
  refine ⟨_, rfl, d, 4, rfl, B0, by decide, by decide, fun z1 o1 a0 a1 B1 => ?_⟩
  obtain ⟨f, hf1, hf⟩ := near_at a0 a1
  have hpd : p ≠ d := fun e => by obtain ⟨o, ho⟩ := B.there; rw [e, ho] at hp; cases hp
  have h2 := SameBut.upd (o := o1) _ _ (B0.ne h1 (fun _ z => by cases z)) h1
  refine ⟨p, _, _, _, rfl, rfl, SqL.of (by rw [upd_ne hpd]; exact upd_same), hf, _, _, rfl, rfl, ?_⟩
  refine ⟨_, rfl, _, rfl, l0, _, _, _, rfl, rfl, SqL.of h2, atI_nat (j := 1) rfl, _, rfl, d, 5, rfl, B1, by decide, by decide, fun z2 o2 b0 b1 B2 => ?_⟩
  have h3 := SameBut.upd (o := o2) _ _ (B1.ne h2 (fun _ z => by cases z)) h2
  refine ⟨_, _, rfl, rfl, _, _, rfl, rfl, _, rfl, l0, _, _, _, rfl, rfl, SqL.of h3, atI_nat (j := 2) rfl, _, rfl, d, 3, rfl, B2, by decide, by decide, fun z3 o3 c0 c1 B3 => ?_⟩
  refine ⟨_, _, rfl, rfl, _, _, rfl, rfl, (by show 3 ≤ sizeLine; decide), fun l hl => ?_⟩
  exact k l _ _ _ _ ((SameBut.of s0').trans (SameBut.upd.trans (SameBut.upd.trans (SameBut.upd.trans (SameBut.of (same_new hl)))))) (B3.same (same_new hl)) ⟨upd_same, by omega, by omega, by omega⟩
theorem ok_gap (T : Txt K mg a) : FnR P w K mg base CX0 2 a._law_gap (spGap K) := by
  have G__law_at : FnR P w K mg base CX0 1 a._law_at (spAt K) := ok_at T
  refine T.d__law_gap.ok sc__law_gap (fun _ _ _ _ _ _ us hl => match us, hl with | [_, _, _], _ => rfl) (fun vs H Q E h => by obtain ⟨l, l', s, o, e, s', o', e', n, rfl, _⟩ := h; rfl) (fun cdv A outer s H vs Q E hr h => ?_)
  obtain ⟨l, l', s, o, e, s', o', e', n, rfl, h1, h2, n0, n1, k⟩ := h
  refine ⟨_, (pss_one (ps_ret (pe_op op_sub (pe_callR G__law_at (hr.mono (by decide)) T.m__law_at T.k__law_at pass0 (pa_cons (pv 0) (pa_cons (pv 2) pa_nil))) (pe_callR G__law_at (hr.mono (by decide)) T.m__law_at T.k__law_at pass0 (pa_cons (pv 1) (pa_cons (pv 2) pa_nil)))))), ?_⟩
  rw [val_sub] at k
  exact ⟨_, rfl, _, rfl, l, s, o, e, n, rfl, SqL.of h1.1, cm_small h1.2.1 (by decide) (by omega), cm_small h1.2.2.2 (by decide) (by omega), _, rfl, _, rfl, l', s', o', e', n, rfl, SqL.of h2.1, cm_small h2.2.1 (by decide) (by omega), cm_small h2.2.2.2 (by decide) (by omega), _, _, rfl, rfl, k⟩
theorem ok_alw (T : Txt K mg a) : FnR P w K mg base CX0 3 a._law_is_always spAlw := by
  have G__law_gap : FnR P w K mg base CX0 2 a._law_gap (spGap K) := ok_gap T
  refine T.d__law_is_always.ok sc__law_is_always (fun _ _ _ _ _ _ us hl => match us, hl with | [_, _, _], _ => rfl) (fun vs H Q E h => by obtain ⟨l, l', s, o, e, s', o', e', n, rfl, _⟩ := h; rfl) (fun cdv A outer s H vs Q E hr h => ?_)
  obtain ⟨l, l', s, o, e, s', o', e', m, rfl, h1, h2, k⟩ := h
  refine ⟨_, (pss_cons (ps_if (pt_cmpR op_gt (pe_ix ix_list (pv 0) pe_int (fun _ _ => rfl)) (pe_ix ix_list (pv 1) pe_int (fun _ _ => rfl)) (nomark _))
          (pss_one (ps_ret pe_bl))
          pss_nil)
      (pss_one (ps_ret (pe_and (pe_cmpR op_le (pe_callR G__law_gap (hr.mono (by decide)) T.m__law_gap T.k__law_gap pass0 (pa_cons (pv 0) (pa_cons (pv 1) (pa_cons pe_int pa_nil)))) (pv 2) (nomark _)) (pe_one (pe_cmpR op_le (pe_callR G__law_gap (hr.mono (by decide)) T.m__law_gap T.k__law_gap pass0 (pa_cons (pv 0) (pa_cons (pv 1) (pa_cons pe_int pa_nil)))) (pv 2) (nomark _))))))), ?_⟩
  refine ⟨_, rfl, l, _, _, _, rfl, rfl, SqL.of h1.1, atI_nat (j := 0) rfl, _, rfl, l', _, _, _, rfl, rfl, SqL.of h2.1, atI_nat (j := 0) rfl, _, _, rfl, rfl, _, rfl, ?_⟩
  refine ite2 (fun z => ?_) fun z => ?_
  · have q : nbB (s' - s) (o' - o) (e' - e) (-m) = false := by
      have z := of_decide_eq_true z
      unfold nbB
      rw [show decide (0 ≤ s' - s) = false from decide_eq_false (by omega), Bool.false_and]
    rw [q] at k
    exact k
  · have z : ¬ (s > s') := fun q => z (decide_eq_true q)
    rw [← alw_eq _ _ _ _ _ _ _ z] at k
    refine ⟨_, rfl, _, rfl, l, l', s, o, e, s', o', e', 1, rfl, h1, h2, by decide, by decide, _, rfl, _, _, rfl, rfl, _, rfl, ?_⟩
    refine ite2 (fun y => ?_) fun y => ?_
    · rw [if_pos y] at k
      exact ⟨_, rfl, _, rfl, l, l', s, o, e, s', o', e', 2, rfl, h1, h2, by decide, by decide, _, rfl, _, _, rfl, rfl, k⟩
    · rw [if_neg y] at k
      exact k
theorem ok_first (T : Txt K mg a) : FnR P w K mg base CX0 3 a._law_first spFirst := by
  have G__law_gap : FnR P w K mg base CX0 2 a._law_gap (spGap K) := ok_gap T
  refine T.d__law_first.ok sc__law_first (fun _ _ _ _ _ _ us hl => match us, hl with | [_, _], _ => rfl) (fun vs H Q E h => by obtain ⟨l, l', s, o, e, s', o', e', rfl, _⟩ := h; rfl) (fun cdv A outer s H vs Q E hr h => ?_)
  obtain ⟨l, l', s, o, e, s', o', e', rfl, h1, h2, k⟩ := h
  have F : FirstIs (s - s') (o - o') (e - e') (fbV (s - s') (o - o') (e - e')) := fb_first _ _ _ (by have := h1.2; have := h2.2; unfold Sm at *; omega) (by have := h1.2; have := h2.2; unfold Sm at *; omega)
  have k : ∀ v, FirstIs (s - s') (o - o') (e - e') v → Q v H := fun v hv => by rw [hv.the F]; exact k
  refine ⟨_, (pss_cons (ps_for PassesOwn.never rfl (pi_range2 rfl T.n_range (pa_cons pe_int (pa_cons pe_int pa_nil))) (pg_name (i := 2) sc__law_first.nd rfl (Or.inl rfl))
          (pss_one (ps_if (pt_cmpR op_gt (pe_callR G__law_gap (hr.mono (by decide)) T.m__law_gap T.k__law_gap pass0 (pa_cons (pv 0) (pa_cons (pv 1) (pa_cons (pv 2) pa_nil)))) pe_int (nomark _))
              (pss_one (ps_ret (pv 2)))
              pss_nil)))
      (pss_one (ps_ret pe_non))), ?_⟩
  refine ⟨1, 130, rfl, by decide, for_range (n := 129) (fun i σ H' => ∃ v, σ = [some (.ref l), some (.ref l'), v] ∧ H' = H ∧ ∀ m, 1 ≤ m → m < 1 + (i : Int) → valP (s - s') (o - o') (e - e') m ≤ 0)
    ⟨_, rfl, rfl, fun m a b => by omega⟩ ?_ ?_⟩
  · rintro i σ H1 hi ⟨v, rfl, rfl, hv⟩
    refine ⟨_, rfl, _, rfl, _, rfl, l, l', s, o, e, s', o', e', _, rfl, h1, h2, by omega, by omega, _, _, rfl, rfl, _, rfl, ?_⟩
    refine ite2 (fun z => ?_) fun z => ?_
    · exact ⟨_, rfl, k _ (.inl ⟨_, rfl, by omega, by omega, of_decide_eq_true z, hv⟩)⟩
    · refine ⟨_, rfl, rfl, fun m m1 m2 => ?_⟩
      by_cases c : m = 1 + (i : Int)
      · subst c
        exact Int.not_lt.mp fun q => z (decide_eq_true q)
      · exact hv m m1 (by omega)
  · rintro σ H1 ⟨v, rfl, rfl, hv⟩
    exact k _ (.inr ⟨rfl, fun m m1 m2 => hv m m1 (by omega)⟩)
end
end Pf
end
section
namespace Pf
open PySem PySem.Spec PyProof.Rows L2 Ow StX
/-! ### the law -/
theorem same_of_but {d : Addr} {H H' : Hp} (s : SameBut d H H') (n : H d = none) : Same H H' := fun b o e => s b o (ne_of_none e n) e
theorem andF {b : Bool} {A B : Prop} (q : B) (h : B → b = true → A) : if b = true then A else B := ite2 (fun z => h q z) fun _ => q
theorem ifFalse {b : Bool} {A B : Prop} (h : b = false) (q : B) : if b = true then A else B := by rw [h]; exact iteF q
theorem ifTrue {b : Bool} {A B : Prop} (h : b = true) (q : A) : if b = true then A else B := by rw [h]; exact iteT q
theorem pick3 {H : Hp} {la lb lc : Addr} {s1 o1 e1 s2 o2 e2 s3 o3 e3 z : Int} (h1 : Pt H la s1 o1 e1) (h2 : Pt H lb s2 o2 e2) (h3 : Pt H lc s3 o3 e3) (z0 : 0 ≤ z) (z1 : z < 5) :
    ∃ l s o e, atI [.ref la, .ref lb, .ref lc] (z / 2) = some (V.ref l) ∧ Pt H l s o e := by
  obtain ⟨k, hk⟩ : ∃ k : Nat, z / 2 = (k : Int) := ⟨(z / 2).toNat, by omega⟩
  have hk3 : k < 3 := by omega
  rw [hk]
  match k, hk3 with
  | 0, _ => exact ⟨la, _, _, _, atI_nat rfl, h1⟩
  | 1, _ => exact ⟨lb, _, _, _, atI_nat rfl, h2⟩
  | 2, _ => exact ⟨lc, _, _, _, atI_nat rfl, h3⟩
/-- what stands in a turn -/
structure Here (C : Addr) (H : Hp) (d l1 l2 x1 x2 : Addr) (s o e s' o' e' : Int) : Prop where
  bag : Bag H d
  h1 : Pt H l1 s o e
  h2 : Pt H l2 s' o' e'
  p1 : PlaceAt H C x1 s o e
  p2 : PlaceAt H C x2 s' o' e'
theorem Here.same {C : Addr} {H H' : Hp} {d l1 l2 x1 x2 : Addr} {s o e s' o' e' : Int} (h : Here C H d l1 l2 x1 x2 s o e s' o' e') (m : Same H H') : Here C H' d l1 l2 x1 x2 s o e s' o' e' :=
  ⟨h.bag.same m, h.h1.same m, h.h2.same m, h.p1.same m, h.p2.same m⟩
theorem Pt.but {H : Hp} {d l : Addr} {u : HO} {s o e : Int} (h : Pt H l s o e) (b : Bag H d) : Pt (upd H d u) l s o e := ⟨by rw [upd_ne (b.ne h.1 (fun _ z => by cases z))]; exact h.1, h.2⟩
theorem Pt.butS {H H' : Hp} {d l : Addr} {s o e : Int} (h : Pt H l s o e) (b : Bag H d) (m : SameBut d H H') : Pt H' l s o e := ⟨m _ _ (b.ne h.1 (fun _ z => by cases z)) h.1, h.2⟩
/-- the text of a row of truths is short -/
theorem bools_short : ∀ b0 b1 b2 b3 : Bool, (PyData.list [.bool b0, .bool b1, .bool b2, .bool b3]).shown.length ≤ sizeLine := by decide +kernel
theorem bools_show : ∀ b0 b1 b2 b3 : Bool, (PyData.list [.bool b0, .bool b1, .bool b2, .bool b3]).showable = true := by decide +kernel
theorem ints_short : ∀ k : Fin 130, (PyData.int (k.val : Int)).shown.length ≤ sizeLine ∧ (PyData.int (k.val : Int)).showable = true := by decide +kernel
theorem first_data {K : PySem.W.Frag} {S O D : Int} {v : V} (h : FirstIs S O D v) : ∃ d, (∀ H, Dp K H v d) ∧ d.showable = true ∧ d.hasDict = false ∧ d.depth ≤ 8 ∧ d.shown.length ≤ sizeLine := by
  rcases h with ⟨n, rfl, n1, n2, _, _⟩ | ⟨rfl, _⟩
  · obtain ⟨k, rfl⟩ : ∃ k : Nat, n = (k : Int) := ⟨n.toNat, by omega⟩
    have := ints_short ⟨k, by omega⟩
    exact ⟨.int (k : Int), fun _ => .int _, this.2, rfl, Nat.le_of_ble_eq_true rfl, this.1⟩
  · exact ⟨.none, fun _ => .non, rfl, rfl, by decide, by decide +kernel⟩
theorem sm_fb {s o e s' o' e' : Int} (h : Sm s o e) (h' : Sm s' o' e') : FirstIs (s - s') (o - o') (e - e') (fbV (s - s') (o - o') (e - e')) :=
  fb_first _ _ _ (by unfold Sm at *; omega) (by unfold Sm at *; omega)
theorem len60 {n : Nat} (h : n < 60) : n < sizeLine := Nat.lt_of_lt_of_le h (by decide)
theorem nb_val {S O D n : Int} (h : nbB S O D 0 = true) (hn : 1 ≤ n) : 0 ≤ valP S O D n := nb_all h hn
theorem val_opp (s o e s' o' e' n : Int) : valP (s - s') (o - o') (e - e') n = - valP (s' - s) (o' - o) (e' - e) n := by
  rw [val_sub, val_sub]
  omega
theorem eqv_str (z : Str) : PyData.eqv (.str z) (.str z) = true := by simp [PyData.eqv]
theorem nb_self1 (s o e : Int) : nbB (s - s) (o - o) (e - e) 1 = false := by
  unfold nbB
  have : ¬ (1 ≤ o - o + (e - e)) := by omega
  simp [this]
theorem nb_self0 (s o e : Int) : nbB (s - s) (o - o) (e - e) 0 = true := by
  unfold nbB
  have h1 : 0 ≤ s - s := by omega
  have h2 : 0 ≤ o - o + (e - e) := by omega
  have h3 : 0 ≤ s - s + (o - o) := by omega
  simp only [decide_eq_true h1, decide_eq_true h2, decide_eq_true h3, Bool.and_self]
theorem fb_self (s o e : Int) : fbV (s - s) (o - o) (e - e) = .non := by
  have h1 : s - s = 0 := by omega
  have h2 : o - o = 0 := by omega
  have h3 : e - e = 0 := by omega
  rw [h1, h2, h3]
  rfl
theorem fb_far : fbV (1 - 0) (-(10 ^ Int.toNat 30) - 0) (0 - 0) = .int (2 * 10 ^ Int.toNat 30 + 2) := by
  have e : (10 : Int) ^ Int.toNat 30 = 1000000000000000000000000000000 := by decide
  rw [e]
  unfold fbV faV
  rw [if_neg (by decide), if_neg (by decide), if_neg (by decide), if_neg (by decide)]
  show (if _ then V.int _ else V.int _) = _
  rw [if_neg (by decide)]
  rfl
theorem made_same {H : Hp} {C x dx : Addr} {f : List (Str × V)} (nx : H x = none) (nd : H dx = none) : Same H (upd (upd (upd H dx (.own x)) x (.ins C dx [])) x (.ins C dx f)) := fun b u e => by
  rw [upd_ne (ne_of_none e nx), upd_ne (ne_of_none e nx), upd_ne (ne_of_none e nd)]
  exact e
def spLaw (K : PySem.W.Frag) : Sp := fun vs H Q _ => ∃ (sa : Addr) (ns : List Int), vs = [.ref sa] ∧ SqL K H sa (ns.map V.int) ∧ ns.length ≤ 63 ∧ ∀ H', Q (.bl true) H'
section
variable {P : Program} {w : World} {K : PySem.W.Frag} {mg : Str → Option Value} {base : Heap} {a : Adr}
set_option maxHeartbeats 16000000
theorem ok_init2 (T : Txt K mg a) : FnR P w K mg base CX0 2 a.Place_init (fun vs H Q E => spPInit a.Place (vs ++ [.int 0]) H Q E) := by
  have G_is_int : FnR P w K mg base CX0 1 a.is_int spIntI := ok_is_int T
  refine T.d_Place_init.okD (P := P) (w := w) (mg := mg) (base := base) (k := 1) (n := 3) (j := 0) (sp := spPInit a.Place) sc_Place_init (by simp) rfl (fun T kV doc pm an cdv ct us its hu hi => match us, its, hu, hi with | [_, _, _], [_], _, _ => ⟨_, rfl, rfl⟩) (fun vs H Q E h => by obtain ⟨p, dx, s, o, d, rfl, _⟩ := h; rfl) (fun cdv A outer s H vs Q E hr h => ?_)
  obtain ⟨p, dx, s, o, d, rfl, hp, k⟩ := h
  refine ⟨_, (pss_cons (ps_if (pt_not (pt_val (pe_callR G_is_int (hr.mono (by decide)) T.m_is_int T.k_is_int pass0 (pa_cons (pv 1) pa_nil))))
          (pss_one ps_never)
          pss_nil)
      (pss_cons (ps_if (pt_not (pt_val (pe_callR G_is_int (hr.mono (by decide)) T.m_is_int T.k_is_int pass0 (pa_cons (pv 2) pa_nil))))
          (pss_one ps_never)
          pss_nil)
      (pss_cons (ps_if (pt_not (pt_val (pe_callR G_is_int (hr.mono (by decide)) T.m_is_int T.k_is_int pass0 (pa_cons (pv 3) pa_nil))))
          (pss_one ps_never)
          pss_nil)
      (pss_cons (ps_fld (pv 0) (pv 1) rfl)
      (pss_cons (ps_fld (pv 0) (pv 2) rfl)
      (pss_one (ps_fld (pv 0) (pv 3) rfl))))))), ?_⟩
  refine ⟨_, rfl, s, rfl, true, rfl, iteF ⟨_, rfl, o, rfl, true, rfl, iteF ⟨_, rfl, d, rfl, true, rfl, iteF ?_⟩⟩⟩
  refine ⟨_, rfl, _, rfl, p, _, dx, [], rfl, hp, T.c_Place.cl, T.a_Place__slope, (by show 0 < 1000; decide), ?_⟩
  refine ⟨_, rfl, _, rfl, p, _, dx, _, rfl, upd_same, T.c_Place.cl, T.a_Place__offset, (by show 1 < 1000; decide), ?_⟩
  rw [upd_upd]
  refine ⟨_, rfl, _, rfl, p, _, dx, _, rfl, upd_same, T.c_Place.cl, T.a_Place__odd, Nat.lt_of_le_of_lt (len2 s o) (by decide), ?_⟩
  rw [upd_upd]
  exact k
theorem ok_law (T : Txt K mg a) : FnG P w K mg base CX0 6 a.law (spLaw K) := by
  have G__law_draw : FnR P w K mg base CX0 1 a._law_draw spDraw := ok_draw T
  have G__law_bag : FnR P w K mg base CX0 1 a._law_bag (spBag K) := ok_bag T
  have G__law_drawn : FnR P w K mg base CX0 2 a._law_drawn spDrawn := ok_drawn T
  have G__law_near : FnR P w K mg base CX0 2 a._law_near spNear := ok_near T
  have G__law_place : FnR P w K mg base CX0 4 a._law_place (spPlaceOf K a.Place) := ok_placeOf T
  have G__law_gap : FnR P w K mg base CX0 2 a._law_gap (spGap K) := ok_gap T
  have G__law_is_always : FnR P w K mg base CX0 3 a._law_is_always spAlw := ok_alw T
  have G__law_first : FnR P w K mg base CX0 3 a._law_first spFirst := ok_first T
  have G_first_beyond : FnR P w K mg base CX0 5 a.first_beyond (spFB a.Place) := ok_fb T
  have G_Place_init : FnR P w K mg base CX0 2 a.Place_init (spPInit a.Place) := ok_p_init T
  have G_init2 : FnR P w K mg base CX0 2 a.Place_init (fun vs H Q E => spPInit a.Place (vs ++ [.int 0]) H Q E) := ok_init2 T
  have G_le : FnR P w K mg base CX0 5 a.Place_le (spCmp a.Place gLe) := ok_p_le T
  have G_lt : FnR P w K mg base CX0 5 a.Place_lt (spCmp a.Place gLt) := ok_p_lt T
  have G_ge : FnR P w K mg base CX0 5 a.Place_ge (spCmp a.Place gGe) := ok_p_ge T
  have G_gt : FnR P w K mg base CX0 5 a.Place_gt (spCmp a.Place gGt) := ok_p_gt T
  refine T.d_law.okG sc_law (fun _ _ _ _ _ _ us hl => match us, hl with | [_], _ => rfl) (fun vs H Q E h => by obtain ⟨sa, ns, rfl, _⟩ := h; rfl) (fun cdv A outer s H vs Q E hr hg h => ?_)
  obtain ⟨sa, ns, rfl, hS, hns, k⟩ := h
  refine ⟨_, (pss_cons (ps_set (i := 1) sc_law.nd rfl (Or.inl rfl) (pe_callR G__law_bag (hr.mono (by decide)) T.m__law_bag T.k__law_bag pass0 (pa_cons (pv 0) pa_nil)))
      (pss_cons (ps_for PassesOwn.never rfl (pi_range1 rfl T.n_range (pa_cons pe_int pa_nil)) (pg_name (i := 2) sc_law.nd rfl (Or.inl rfl))
          (pss_cons (ps_set (i := 3) sc_law.nd rfl (Or.inr rfl) (pe_callR G__law_drawn (hr.mono (by decide)) T.m__law_drawn T.k__law_drawn pass0 (pa_cons (pv 1) pa_nil)))
          (pss_cons (ps_set (i := 4) sc_law.nd rfl (Or.inr rfl) (pe_ix ix_list (pe_lst (pa_cons (pe_callR G__law_drawn (hr.mono (by decide)) T.m__law_drawn T.k__law_drawn pass0 (pa_cons (pv 1) pa_nil)) (pa_cons (pe_callR G__law_near (hr.mono (by decide)) T.m__law_near T.k__law_near pass0 (pa_cons (pv 1) (pa_cons (pv 3) pa_nil))) (pa_cons (pe_callTy call_list_of (by rfl) T.n_list (by decide +kernel) (pa_cons (pv 3) pa_nil)) pa_nil)))) (pe_op op_fdiv (pe_callR G__law_draw (hr.mono (by decide)) T.m__law_draw T.k__law_draw pass0 (pa_cons (pv 1) (pa_cons pe_int pa_nil))) pe_int) (fun _ _ => rfl)))
          (pss_cons (ps_par (i := 5) (j := 6) (by rfl) sc_law.nd rfl rfl (by decide) rfl rfl (pa_cons (pe_callR G__law_place (hr.mono (by decide)) T.m__law_place T.k__law_place pass0 (pa_cons (pv 3) pa_nil)) (pa_cons (pe_callR G__law_place (hr.mono (by decide)) T.m__law_place T.k__law_place pass0 (pa_cons (pv 4) pa_nil)) pa_nil)) (by rfl))
          (pss_cons (ps_set (i := 7) sc_law.nd rfl (Or.inl rfl) (pe_lst (pa_cons (pe_callR G__law_is_always (hr.mono (by decide)) T.m__law_is_always T.k__law_is_always pass0 (pa_cons (pv 3) (pa_cons (pv 4) (pa_cons pe_int pa_nil)))) (pa_cons (pe_callR G__law_is_always (hr.mono (by decide)) T.m__law_is_always T.k__law_is_always pass0 (pa_cons (pv 3) (pa_cons (pv 4) (pa_cons (pe_un un_neg pe_int) pa_nil)))) pa_nil))))
          (pss_cons (ps_set (i := 7) sc_law.nd rfl (Or.inl rfl) (pe_op op_cat (pv 7) (pe_lst (pa_cons (pe_callR G__law_is_always (hr.mono (by decide)) T.m__law_is_always T.k__law_is_always pass0 (pa_cons (pv 4) (pa_cons (pv 3) (pa_cons pe_int pa_nil)))) (pa_cons (pe_callR G__law_is_always (hr.mono (by decide)) T.m__law_is_always T.k__law_is_always pass0 (pa_cons (pv 4) (pa_cons (pv 3) (pa_cons (pe_un un_neg pe_int) pa_nil)))) pa_nil)))))
          (pss_cons (ps_set (i := 8) sc_law.nd rfl (Or.inl rfl) (pe_lst (pa_cons (pe_cmpR (op_cmp (op := .LtE) (fun _ _ => rfl) T.o_Place_le T.f_Place_le T.s_Place_not G_le (hr.mono (by decide)) pass0) (pv 5) (pv 6) (nomark _)) (pa_cons (pe_cmpR (op_cmp (op := .Lt) (fun _ _ => rfl) T.o_Place_lt T.f_Place_lt T.s_Place_not G_lt (hr.mono (by decide)) pass0) (pv 5) (pv 6) (nomark _)) (pa_cons (pe_cmpR (op_cmp (op := .GtE) (fun _ _ => rfl) T.o_Place_ge T.f_Place_ge T.s_Place_not G_ge (hr.mono (by decide)) pass0) (pv 5) (pv 6) (nomark _)) (pa_cons (pe_cmpR (op_cmp (op := .Gt) (fun _ _ => rfl) T.o_Place_gt T.f_Place_gt T.s_Place_not G_gt (hr.mono (by decide)) pass0) (pv 5) (pv 6) (nomark _)) pa_nil))))))
          (pss_cons (ps_if (pt_cmpR op_ne (pe_callB (call_reprD (by exact hg) hr.units) (by rfl) T.n_repr (by decide +kernel) (pa_cons (pv 8) pa_nil)) (pe_callB (call_reprD (by exact hg) hr.units) (by rfl) T.n_repr (by decide +kernel) (pa_cons (pv 7) pa_nil)) (nomark _))
              (pss_one (ps_ret pe_bl))
              pss_nil)
          (pss_cons (ps_setLc (i := 9) (own := [("_law_size", 14)]) (g := gName 14) (by rfl) sc_law.nd rfl rfl (sw_true rfl rfl rfl (by decide +kernel)) (pi_range2 rfl T.n_range (pa_cons pe_int (pa_cons pe_int pa_nil))) (blkOk_by (own := [("_law_size", 14)]) (N := ["_law_script", "_law_bag_here", "_law_turn", "_law_parts_here", "_law_others", "_law_one", "_law_other", "_law_due", "_law_told", "_law_gaps", "_law_low", "_law_high", "_law_far", "_law_none", "_law_size", "_law_gap_here"]) (sc := defScope s_law) (by decide +kernel)) (fun _ _ _ _ _ => (pg_name (i := 14) sc_law.nd rfl (Or.inl rfl))) (fun _ _ _ _ _ => pts_nil) (fun _ _ _ _ _ => (pe_callR G__law_gap (hr.mono (by decide)) T.m__law_gap T.k__law_gap pass0 (pa_cons (pv 3) (pa_cons (pv 4) (pa_cons (pv 14) pa_nil))))))
          (pss_cons (ps_par (i := 10) (j := 11) (by rfl) sc_law.nd rfl rfl (by decide) rfl rfl (pa_cons (pe_callB (cr_min rfl) (by rfl) T.n_min (by decide +kernel) (pa_cons (pe_lc (own := [("_law_gap_here", 15)]) (g := gName 15) (by rfl) sc_law.nd (pi_list (pv 9)) (blkOk_by (own := [("_law_gap_here", 15)]) (N := ["_law_script", "_law_bag_here", "_law_turn", "_law_parts_here", "_law_others", "_law_one", "_law_other", "_law_due", "_law_told", "_law_gaps", "_law_low", "_law_high", "_law_far", "_law_none", "_law_size", "_law_gap_here"]) (sc := defScope s_law) (by decide +kernel)) (fun _ _ _ _ _ => (pg_name (i := 15) sc_law.nd rfl (Or.inl rfl))) (fun _ _ _ _ _ => pts_nil) (fun _ _ _ _ _ => (pe_callTy call_int1 (by rfl) T.n_int (by decide +kernel) (pa_cons (pv 15) pa_nil)))) pa_nil)) (pa_cons (pe_callB (cr_max rfl) (by rfl) T.n_max (by decide +kernel) (pa_cons (pe_lc (own := [("_law_gap_here", 15)]) (g := gName 15) (by rfl) sc_law.nd (pi_list (pv 9)) (blkOk_by (own := [("_law_gap_here", 15)]) (N := ["_law_script", "_law_bag_here", "_law_turn", "_law_parts_here", "_law_others", "_law_one", "_law_other", "_law_due", "_law_told", "_law_gaps", "_law_low", "_law_high", "_law_far", "_law_none", "_law_size", "_law_gap_here"]) (sc := defScope s_law) (by decide +kernel)) (fun _ _ _ _ _ => (pg_name (i := 15) sc_law.nd rfl (Or.inl rfl))) (fun _ _ _ _ _ => pts_nil) (fun _ _ _ _ _ => (pe_callTy call_int1 (by rfl) T.n_int (by decide +kernel) (pa_cons (pv 15) pa_nil)))) pa_nil)) pa_nil)) (by rfl))
          (pss_cons (ps_if (PW.pt (pw_or (PW.pt (pw_and (pt_val (pe_ix ix_list (pv 8) pe_int (fun _ _ => rfl))) (pw_and1 (pt_cmpR op_gt (pv 11) pe_int (nomark _))))) (pw_or1 (PW.pt (pw_and (pt_val (pe_ix ix_list (pv 8) pe_int (fun _ _ => rfl))) (pw_and1 (pt_cmpR op_lt (pv 10) pe_int (nomark _))))))))
              (pss_one (ps_ret pe_bl))
              pss_nil)
          (pss_cons (ps_if (pt_cmpR op_ne (pe_callB (call_reprD (by exact hg) hr.units) (by rfl) T.n_repr (by decide +kernel) (pa_cons (pe_callR G_first_beyond (hr.mono (by decide)) T.m_first_beyond T.k_first_beyond pass0 (pa_cons (pv 5) (pa_cons (pv 6) pa_nil))) pa_nil)) (pe_callB (call_reprD (by exact hg) hr.units) (by rfl) T.n_repr (by decide +kernel) (pa_cons (pe_callR G__law_first (hr.mono (by decide)) T.m__law_first T.k__law_first pass0 (pa_cons (pv 3) (pa_cons (pv 4) pa_nil))) pa_nil)) (nomark _))
              (pss_one (ps_ret pe_bl))
              pss_nil)
          (pss_cons (ps_if (pt_cmpR op_ne (pe_callB (call_reprD (by exact hg) hr.units) (by rfl) T.n_repr (by decide +kernel) (pa_cons (pe_callR G_first_beyond (hr.mono (by decide)) T.m_first_beyond T.k_first_beyond pass0 (pa_cons (pv 6) (pa_cons (pv 5) pa_nil))) pa_nil)) (pe_callB (call_reprD (by exact hg) hr.units) (by rfl) T.n_repr (by decide +kernel) (pa_cons (pe_callR G__law_first (hr.mono (by decide)) T.m__law_first T.k__law_first pass0 (pa_cons (pv 4) (pa_cons (pv 3) pa_nil))) pa_nil)) (nomark _))
              (pss_one (ps_ret pe_bl))
              pss_nil)
          (pss_one (ps_if (PW.pt (pw_or (pt_cmpR (op_cmp (op := .Lt) (fun _ _ => rfl) T.o_Place_lt T.f_Place_lt T.s_Place_not G_lt (hr.mono (by decide)) pass0) (pv 5) (pv 5) (nomark _)) (pw_or (pt_cmpR (op_cmp (op := .Gt) (fun _ _ => rfl) T.o_Place_gt T.f_Place_gt T.s_Place_not G_gt (hr.mono (by decide)) pass0) (pv 5) (pv 5) (nomark _)) (pw_or (pt_not (pt_cmpR (op_cmp (op := .LtE) (fun _ _ => rfl) T.o_Place_le T.f_Place_le T.s_Place_not G_le (hr.mono (by decide)) pass0) (pv 5) (pv 5) (nomark _))) (pw_or1 (pt_cmpR op_notN (pe_callR G_first_beyond (hr.mono (by decide)) T.m_first_beyond T.k_first_beyond pass0 (pa_cons (pv 5) (pa_cons (pv 5) pa_nil))) pe_non (nomark _)))))))
              (pss_one (ps_ret pe_bl))
              pss_nil)))))))))))))))
      (pss_cons (ps_set (i := 12) sc_law.nd rfl (Or.inl rfl) (pe_makeRR T.M_Place G_init2 (hr.mono (by decide)) T.m_Place pass0 (pa_cons pe_int (pa_cons (pe_un un_neg (pe_op op_pow pe_int pe_int)) pa_nil))))
      (pss_cons (ps_set (i := 13) sc_law.nd rfl (Or.inl rfl) (pe_makeRR T.M_Place G_init2 (hr.mono (by decide)) T.m_Place pass0 (pa_cons pe_int (pa_cons pe_int pa_nil))))
      (pss_one (ps_ret (pe_and (pe_cmpR op_eq (pe_callR G_first_beyond (hr.mono (by decide)) T.m_first_beyond T.k_first_beyond pass0 (pa_cons (pv 12) (pa_cons (pv 13) pa_nil))) (pe_op op_add (pe_op op_mul pe_int (pe_op op_pow pe_int pe_int)) pe_int) (nomark _)) (pe_and (pe_not (pe_cmpR (op_cmp (op := .LtE) (fun _ _ => rfl) T.o_Place_le T.f_Place_le T.s_Place_not G_le (hr.mono (by decide)) pass0) (pv 12) (pv 13) (nomark _))) (pe_one (pe_cmpR (op_cmp (op := .GtE) (fun _ _ => rfl) T.o_Place_ge T.f_Place_ge T.s_Place_not G_ge (hr.mono (by decide)) pass0) (pe_makeRR T.M_Place G_Place_init (hr.mono (by decide)) T.m_Place pass0 (pa_cons pe_int (pa_cons (pe_un un_neg pe_int) (pa_cons pe_int pa_nil)))) (pv 13) (nomark _))))))))))), ?_⟩
  refine ⟨_, rfl, sa, ns, rfl, hS, hns, fun d H0 sm0 hd0 B0 => ?_⟩
  refine ⟨12, rfl, by decide, by decide, for_range (n := 12) (fun i σ H' => ∃ v2 v3 v4 v5 v6 v7 v8 v9 v10 v11 v12 v13 v14 v15 : Option V, σ = [some (.ref sa), some (.ref d), v2, v3, v4, v5, v6, v7, v8, v9, v10, v11, v12, v13, v14, v15] ∧ Bag H' d)
    ⟨_, _, _, _, _, _, _, _, _, _, _, _, _, _, rfl, B0⟩ ?_ ?_⟩
  · rintro i σ H1 hi ⟨v2, v3, v4, v5, v6, v7, v8, v9, v10, v11, v12, v13, v14, v15, rfl, B1⟩
    -- the draws
    refine ⟨_, rfl, d, rfl, B1, fun l1 H2 s o e sb2 B2 h1 bs bo be => ?_⟩
    refine ⟨_, rfl, d, rfl, B2, fun la Ha sa' oa ea sba Ba ha as ao ae => ?_⟩
    have h1a := h1.butS B2 sba
    refine ⟨_, rfl, _, rfl, d, l1, s, o, e, rfl, Ba, h1a.1, bs, bo, be, fun lb Hb s2 o2 e2 sbb Bb hb => ?_⟩
    have h1b := h1a.butS Ba sbb
    have hab := ha.butS Ba sbb
    refine ⟨_, rfl, l1, _, rfl, .inl (SqL.of h1b.1), fun lc hlc => ?_⟩
    have mc := same_new (o := .lst [.int s, .int o, .int e]) hlc
    refine ⟨(by show 3 ≤ sizeLine; decide), fun L hL => ?_⟩
    have mL := same_new (o := .lst [.ref la, .ref lb, .ref lc]) hL
    have BL := (Bb.same mc).same mL
    have hLL : (upd (upd Hb lc (.lst [.int s, .int o, .int e])) L (.lst [.ref la, .ref lb, .ref lc])) L = some (.lst [.ref la, .ref lb, .ref lc]) := upd_same
    have h1L := (h1b.same mc).same mL
    have haL := (hab.same mc).same mL
    have hbL := (hb.same mc).same mL
    have hcL : Pt (upd (upd Hb lc (.lst [.int s, .int o, .int e])) L (.lst [.ref la, .ref lb, .ref lc])) lc s o e := ⟨mL _ _ upd_same, h1.2⟩
    clear mc mL
    generalize upd (upd Hb lc (.lst [.int s, .int o, .int e])) L (.lst [.ref la, .ref lb, .ref lc]) = HL at *
    refine ⟨_, rfl, d, 5, rfl, BL, by decide, by decide, fun z oz z0 z1 Bz => ?_⟩
    have hLz := SameBut.upd (o := oz) _ _ (BL.ne hLL (fun _ z => by cases z)) hLL
    have h1z := h1L.but (u := oz) BL
    obtain ⟨l2, s', o', e', hat, h2z⟩ := pick3 (haL.but (u := oz) BL) (hbL.but (u := oz) BL) (hcL.but (u := oz) BL) z0 z1
    refine ⟨_, _, rfl, rfl, ⟨by decide, by decide⟩, L, _, _, _, rfl, rfl, SqL.of hLz, hat, ?_⟩
    clear hLz haL hbL hcL hLL h1L BL
    generalize upd HL d oz = H4 at *
    -- the two places
    refine ⟨_, rfl, l1, s, o, e, rfl, SqL.of h1z.1, fun x1 H5 sm5 _ p1 => ?_⟩
    refine ⟨_, rfl, l2, s', o', e', rfl, SqL.of (h2z.same sm5).1, fun x2 H6 sm6 _ p2 => ?_⟩
    have E6 : Here a.Place H6 d l1 l2 x1 x2 s o e s' o' e' := ⟨(Bz.same sm5).same sm6, (h1z.same sm5).same sm6, (h2z.same sm5).same sm6, p1.same sm6, p2⟩
    refine ⟨_, _, rfl, ?_⟩
    clear p1 p2 h1z h2z Bz sm5 sm6
    -- due
    refine ⟨_, rfl, _, rfl, l1, l2, s, o, e, s', o', e', 0, rfl, E6.h1, E6.h2, _, rfl, _, rfl, _, rfl, l1, l2, s, o, e, s', o', e', -1, rfl, E6.h1, E6.h2, (by show 2 ≤ sizeLine; decide), fun L1 hL1 => ?_⟩
    have E7 := E6.same (same_new (o := .lst [.bl (nbB (s' - s) (o' - o) (e' - e) (-0)), .bl (nbB (s' - s) (o' - o) (e' - e) (- -1))]) hL1)
    refine ⟨_, rfl, _, rfl, _, rfl, l2, l1, s', o', e', s, o, e, 0, rfl, E7.h2, E7.h1, _, rfl, _, rfl, _, rfl, l2, l1, s', o', e', s, o, e, -1, rfl, E7.h2, E7.h1, (by show 2 ≤ sizeLine; decide), fun L2 hL2 => ?_⟩
    have E8 := E7.same (same_new (o := .lst [.bl (nbB (s - s') (o - o') (e - e') (-0)), .bl (nbB (s - s') (o - o') (e - e') (- -1))]) hL2)
    refine ⟨L1, L2, _, _, rfl, rfl, same_new hL2 _ _ upd_same, upd_same, (by show 4 ≤ sizeLine; decide), fun L3 hL3 => ?_⟩
    have E9 := E8.same (same_new (o := .lst [.bl (nbB (s' - s) (o' - o) (e' - e) 0), .bl (nbB (s' - s) (o' - o) (e' - e) 1), .bl (nbB (s - s') (o - o') (e - e') 0), .bl (nbB (s - s') (o - o') (e - e') 1)]) hL3)
    have hdue : (upd (upd (upd H6 L1 (.lst [.bl (nbB (s' - s) (o' - o) (e' - e) 0), .bl (nbB (s' - s) (o' - o) (e' - e) 1)])) L2 (.lst [.bl (nbB (s - s') (o - o') (e - e') 0), .bl (nbB (s - s') (o - o') (e - e') 1)])) L3 (.lst [.bl (nbB (s' - s) (o' - o) (e' - e) 0), .bl (nbB (s' - s) (o' - o) (e' - e) 1), .bl (nbB (s - s') (o - o') (e - e') 0), .bl (nbB (s - s') (o - o') (e - e') 1)])) L3 = some (.lst [.bl (nbB (s' - s) (o' - o) (e' - e) 0), .bl (nbB (s' - s) (o' - o) (e' - e) 1), .bl (nbB (s - s') (o - o') (e - e') 0), .bl (nbB (s - s') (o - o') (e - e') 1)]) := upd_same
    -- told
    refine ⟨_, rfl, _, rfl, x1, x2, rfl, rfl, E9.p1.ins, E9.p2.ins, x1, x2, _, _, _, _, _, _, rfl, E9.p1, E9.p2, fun Ha ea => ?_⟩
    have Ea := E9.same ea
    refine ⟨_, rfl, _, rfl, x1, x2, rfl, rfl, Ea.p1.ins, Ea.p2.ins, x1, x2, _, _, _, _, _, _, rfl, Ea.p1, Ea.p2, fun Hb eb => ?_⟩
    have Eb := Ea.same eb
    refine ⟨_, rfl, _, rfl, x1, x2, rfl, rfl, Eb.p1.ins, Eb.p2.ins, x1, x2, _, _, _, _, _, _, rfl, Eb.p1, Eb.p2, fun Hc ec => ?_⟩
    have Ec := Eb.same ec
    refine ⟨_, rfl, _, rfl, x1, x2, rfl, rfl, Ec.p1.ins, Ec.p2.ins, x1, x2, _, _, _, _, _, _, rfl, Ec.p1, Ec.p2, fun Hd ed => ?_⟩
    have Ed := Ec.same ed
    refine ⟨(by show 4 ≤ sizeLine; decide), fun L4 hL4 => ?_⟩
    have s4 := same_new (o := .lst [.bl (nbB (s' - s) (o' - o) (e' - e) 0), .bl (nbB (s' - s) (o' - o) (e' - e) 1), .bl (nbB (s - s') (o - o') (e - e') 0), .bl (nbB (s - s') (o - o') (e - e') 1)]) hL4
    have E10 := Ed.same s4
    have hdue4 := s4 _ _ (ed _ _ (ec _ _ (eb _ _ (ea _ _ hdue))))
    have htold : (upd Hd L4 (.lst [.bl (nbB (s' - s) (o' - o) (e' - e) 0), .bl (nbB (s' - s) (o' - o) (e' - e) 1), .bl (nbB (s - s') (o - o') (e - e') 0), .bl (nbB (s - s') (o - o') (e - e') 1)])) L4 = some (.lst [.bl (nbB (s' - s) (o' - o) (e' - e) 0), .bl (nbB (s' - s) (o' - o) (e' - e) 1), .bl (nbB (s - s') (o - o') (e - e') 0), .bl (nbB (s - s') (o - o') (e - e') 1)]) := upd_same
    -- repr(told) != repr(due)
    refine ⟨_, rfl, _, .list [.bool (nbB (s' - s) (o' - o) (e' - e) 0), .bool (nbB (s' - s) (o' - o) (e' - e) 1), .bool (nbB (s - s') (o - o') (e - e') 0), .bool (nbB (s - s') (o - o') (e - e') 1)], rfl, .lst (SqL.of htold) (.cons (.bl _) (.cons (.bl _) (.cons (.bl _) (.cons (.bl _) .nil)))), bools_show _ _ _ _, rfl, Nat.le_of_ble_eq_true rfl, bools_short _ _ _ _, ?_⟩
    refine ⟨_, rfl, _, .list [.bool (nbB (s' - s) (o' - o) (e' - e) 0), .bool (nbB (s' - s) (o' - o) (e' - e) 1), .bool (nbB (s - s') (o - o') (e - e') 0), .bool (nbB (s - s') (o - o') (e - e') 1)], rfl, .lst (SqL.of hdue4) (.cons (.bl _) (.cons (.bl _) (.cons (.bl _) (.cons (.bl _) .nil)))), bools_show _ _ _ _, rfl, Nat.le_of_ble_eq_true rfl, bools_short _ _ _ _, ?_⟩
    refine ⟨rfl, _, rfl, ifNot (decide_eq_true rfl) ?_⟩
    show tSeq _ _ _ _ (upd Hd L4 (.lst [.bl (nbB (s' - s) (o' - o) (e' - e) 0), .bl (nbB (s' - s) (o' - o) (e' - e) 1), .bl (nbB (s - s') (o - o') (e - e') 0), .bl (nbB (s - s') (o - o') (e - e') 1)]))
    clear hdue hdue4 Ea Eb Ec Ed E9 E8 E7 E6 s4
    generalize upd Hd L4 (.lst [.bl (nbB (s' - s) (o' - o) (e' - e) 0), .bl (nbB (s' - s) (o' - o) (e' - e) 1), .bl (nbB (s - s') (o - o') (e - e') 0), .bl (nbB (s - s') (o - o') (e - e') 1)]) = H10 at *
    clear ea eb ec ed hL4 hL3 hL2 hL1
    -- gaps
    refine ⟨1, 61, rfl, by decide, fun D hD => lc_range (n := 60) (fun j H' => SameBut D H10 H' ∧ ∃ gs : List Int, H' D = some (.lst (gs.map V.int)) ∧ gs.length = j ∧ ∀ x, x ∈ gs → ∃ m, 1 ≤ m ∧ x = valP (s - s') (o - o') (e - e') m)
      ⟨SameBut.of (same_new hD), [], upd_same, rfl, fun x h => by cases h⟩ ?_ ?_⟩
    · rintro j H' hj ⟨sb, gs, hD', hlen, hgs⟩
      have E := E10.same (same_of_but sb hD)
      refine ⟨rfl, _, rfl, _, rfl, _, rfl, l1, l2, s, o, e, s', o', e', _, rfl, E.h1, E.h2, by omega, by omega, gs.map V.int, hD', by rw [List.length_map]; exact len60 (by omega), sb.trans SameBut.upd, gs ++ [valP (s - s') (o - o') (e - e') (1 + (j : Int))], by rw [upd_same, List.map_append]; rfl, by rw [List.length_append, hlen]; rfl, fun x hx => ?_⟩
      rcases List.mem_append.mp hx with q | q
      · exact hgs x q
      · exact ⟨1 + (j : Int), by omega, List.mem_singleton.mp q⟩
    rintro H11 ⟨sb, gs, hD', hlen, hgs⟩
    have E11 := E10.same (same_of_but sb hD)
    have ht11 := same_of_but sb hD _ _ htold
    clear E10 htold
    -- low, high
    have turnI : ∀ {D2 : Addr} {H1 H' : Hp} {ms : List Int} {y : Int} {j : Nat}, j < 60 → SameBut D2 H1 H' → ms.length = j → (∀ x, x ∈ ms → x ∈ gs) → y ∈ gs →
        (ms.map V.int).length < sizeLine ∧ SameBut D2 H1 (upd H' D2 (.lst (ms.map V.int ++ [.int y]))) ∧ ∃ ms' : List Int, (upd H' D2 (.lst (ms.map V.int ++ [.int y]))) D2 = some (.lst (ms'.map V.int)) ∧ ms'.length = j + 1 ∧ ∀ x, x ∈ ms' → x ∈ gs := by
      intro D2 H1 H' ms y j hj sb2 hl hms hy
      refine ⟨by rw [List.length_map]; exact len60 (by omega), sb2.trans SameBut.upd, ms ++ [y], by rw [upd_same, List.map_append]; rfl, by rw [List.length_append, hl]; rfl, fun x hx => ?_⟩
      rcases List.mem_append.mp hx with q | q
      · exact hms x q
      · rw [List.mem_singleton.mp q]; exact hy
    have item : ∀ {j : Nat} {x : V}, (gs.map V.int)[j]? = some x → ∃ y, x = .int y ∧ y ∈ gs ∧ j < 60 := by
      intro j x hx
      rw [List.getElem?_map] at hx
      cases hy : gs[j]? with
      | none => rw [hy] at hx; cases hx
      | some y =>
        rw [hy] at hx
        cases hx
        have := (List.getElem?_eq_some_iff.mp hy).1
        exact ⟨y, rfl, List.mem_of_getElem? hy, by omega⟩
    refine ⟨_, rfl, D, rfl, ⟨_, SqL.of hD'⟩, fun D2 hD2 => lc_list (K := K) (a := D) (xs := gs.map V.int) (fun j H' => SameBut D2 H11 H' ∧ ∃ ms : List Int, H' D2 = some (.lst (ms.map V.int)) ∧ ms.length = j ∧ ∀ x, x ∈ ms → x ∈ gs)
      ⟨SameBut.of (same_new hD2), [], upd_same, rfl, fun x h => by cases h⟩ (fun j H' _ q => SqL.of (same_of_but q.1 hD2 _ _ hD')) ?_ ?_⟩
    · rintro j x H' hx ⟨sb2, ms, hm, hl, hms⟩
      obtain ⟨y, rfl, hy, hj⟩ := item hx
      exact ⟨rfl, _, rfl, .inl ⟨y, rfl, ms.map V.int, hm, turnI hj sb2 hl hms hy⟩⟩
    rintro H12 ⟨sb2, ms, hm, hl, hms⟩
    have s12 := same_of_but sb2 hD2
    have E12 := E11.same s12
    have hD12 := s12 _ _ hD'
    have ht12 := s12 _ _ ht11
    have hl : ms.length = 60 := by rw [hl, List.length_map, hlen]
    refine ⟨D2, ms, rfl, SqL.of hm, by omega, fun lo hlo _ => ?_⟩
    refine ⟨_, rfl, D, rfl, ⟨_, SqL.of hD12⟩, fun D3 hD3 => lc_list (K := K) (a := D) (xs := gs.map V.int) (fun j H' => SameBut D3 H12 H' ∧ ∃ ms : List Int, H' D3 = some (.lst (ms.map V.int)) ∧ ms.length = j ∧ ∀ x, x ∈ ms → x ∈ gs)
      ⟨SameBut.of (same_new hD3), [], upd_same, rfl, fun x h => by cases h⟩ (fun j H' _ q => SqL.of (same_of_but q.1 hD3 _ _ hD12)) ?_ ?_⟩
    · rintro j x H' hx ⟨sb2, ms, hm, hl, hms⟩
      obtain ⟨y, rfl, hy, hj⟩ := item hx
      exact ⟨rfl, _, rfl, .inl ⟨y, rfl, ms.map V.int, hm, turnI hj sb2 hl hms hy⟩⟩
    rintro H13 ⟨sb3, ks, hk, hkl, hks⟩
    have s13 := same_of_but sb3 hD3
    have E := E12.same s13
    have ht := s13 _ _ ht12
    have hkl : ks.length = 60 := by rw [hkl, List.length_map, hlen]
    refine ⟨D3, ks, rfl, SqL.of hk, by omega, fun hi hhi _ => ?_⟩
    refine ⟨_, _, rfl, ?_⟩
    obtain ⟨mlo, mlo1, elo⟩ := hgs lo (hms lo hlo)
    obtain ⟨mhi, mhi1, ehi⟩ := hgs hi (hks hi hhi)
    -- told[0] and high > 0 or told[2] and low < 0
    refine ⟨_, rfl, L4, _, _, _, rfl, rfl, SqL.of ht, atI_nat (j := 0) rfl, _, rfl, andF (iteF ?_) fun q hb => ⟨_, rfl, _, _, rfl, rfl, _, rfl, ?_⟩⟩
    rotate_left
    · have z : decide (hi > 0) = false := decide_eq_false (by
        have := nb_val hb mhi1
        rw [ehi, val_opp]
        omega)
      rw [z]
      exact q
    refine ⟨_, rfl, L4, _, _, _, rfl, rfl, SqL.of ht, atI_nat (j := 2) rfl, _, rfl, andF (iteF ?_) fun q hb => ⟨_, rfl, _, _, rfl, rfl, _, rfl, ?_⟩⟩
    rotate_left
    · have z : decide (lo < 0) = false := decide_eq_false (by
        have := nb_val hb mlo1
        rw [elo]
        omega)
      rw [z]
      exact q
    -- first_beyond
    have c1 : (s - s').natAbs < 1073741824 := by have := E.h1.2.1; have := E.h2.2.1; omega
    have c2 : (s' - s).natAbs < 1073741824 := by have := E.h1.2.1; have := E.h2.2.1; omega
    have c3 : (s - s).natAbs < 1073741824 := by omega
    obtain ⟨d1, q1, q2, q3, q4, q5⟩ := first_data (K := K) (sm_fb E.h1.2 E.h2.2)
    obtain ⟨d2, r1, r2, r3, r4, r5⟩ := first_data (K := K) (sm_fb E.h2.2 E.h1.2)
    refine ⟨_, rfl, _, rfl, x1, x2, s, o, e, s', o', e', rfl, E.p1, E.p2, c1, fun Ha ea => ?_⟩
    have Ea := E.same ea
    refine ⟨_, d1, rfl, q1 _, q2, q3, q4, q5, ?_⟩
    refine ⟨_, rfl, _, rfl, l1, l2, s, o, e, s', o', e', rfl, Ea.h1, Ea.h2, _, d1, rfl, q1 _, q2, q3, q4, q5, ?_⟩
    refine ⟨rfl, _, rfl, ifNot (decide_eq_true rfl) ?_⟩
    refine ⟨_, rfl, _, rfl, x2, x1, s', o', e', s, o, e, rfl, Ea.p2, Ea.p1, c2, fun Hb eb => ?_⟩
    have Eb := Ea.same eb
    refine ⟨_, d2, rfl, r1 _, r2, r3, r4, r5, ?_⟩
    refine ⟨_, rfl, _, rfl, l2, l1, s', o', e', s, o, e, rfl, Eb.h2, Eb.h1, _, d2, rfl, r1 _, r2, r3, r4, r5, ?_⟩
    refine ⟨rfl, _, rfl, ifNot (decide_eq_true rfl) ?_⟩
    -- one < one or one > one or not one <= one or first_beyond(one, one) is not None
    refine ⟨_, rfl, _, rfl, x1, x1, rfl, rfl, Eb.p1.ins, Eb.p1.ins, x1, x1, _, _, _, _, _, _, rfl, Eb.p1, Eb.p1, fun Hc ec => ⟨_, rfl, ifFalse (nb_self1 s o e) ?_⟩⟩
    have Ec := Eb.same ec
    refine ⟨_, rfl, _, rfl, x1, x1, rfl, rfl, Ec.p1.ins, Ec.p1.ins, x1, x1, _, _, _, _, _, _, rfl, Ec.p1, Ec.p1, fun Hd ed => ⟨_, rfl, ifFalse (nb_self1 s o e) ?_⟩⟩
    have Ed := Ec.same ed
    refine ⟨_, rfl, _, rfl, x1, x1, rfl, rfl, Ed.p1.ins, Ed.p1.ins, x1, x1, _, _, _, _, _, _, rfl, Ed.p1, Ed.p1, fun He ee => ⟨_, rfl, ifNot (nb_self0 s o e) ?_⟩⟩
    have Ee := Ed.same ee
    refine ⟨_, rfl, _, rfl, x1, x1, s, o, e, s, o, e, rfl, Ee.p1, Ee.p1, c3, fun Hf ef => ⟨rfl, _, rfl, ifNot (decide_eq_true (fb_self s o e)) ?_⟩⟩
    exact ⟨_, _, _, _, _, _, _, _, _, _, _, _, _, _, rfl, Ee.bag.same ef⟩
  · rintro σ H1 ⟨v2, v3, v4, v5, v6, v7, v8, v9, v10, v11, v12, v13, v14, v15, rfl, _⟩
    refine ⟨_, _, rfl, rfl, ⟨by decide, by decide, by decide⟩, _, rfl, fun xf dxf nf ndf _ => ?_⟩
    refine ⟨xf, dxf, 1, -(10 ^ Int.toNat 30), 0, rfl, upd_same, rfl, ?_⟩
    have pf : PlaceAt (upd (upd (upd H1 dxf (.own xf)) xf (.ins a.Place dxf [])) xf (.ins a.Place dxf (plF 1 (-(10 ^ Int.toNat 30)) 0))) a.Place xf 1 (-(10 ^ Int.toNat 30)) 0 := ⟨dxf, upd_same⟩
    generalize upd (upd (upd H1 dxf (.own xf)) xf (.ins a.Place dxf [])) xf (.ins a.Place dxf (plF 1 (-(10 ^ Int.toNat 30)) 0)) = Hf at *
    refine fun xn dxn nn ndn _ => ?_
    refine ⟨xn, dxn, 0, 0, 0, rfl, upd_same, rfl, ?_⟩
    have pf2 := pf.same (made_same (C := a.Place) (f := plF 0 0 0) nn ndn)
    have pn : PlaceAt (upd (upd (upd Hf dxn (.own xn)) xn (.ins a.Place dxn [])) xn (.ins a.Place dxn (plF 0 0 0))) a.Place xn 0 0 0 := ⟨dxn, upd_same⟩
    generalize upd (upd (upd Hf dxn (.own xn)) xn (.ins a.Place dxn [])) xn (.ins a.Place dxn (plF 0 0 0)) = Hn at *
    refine ⟨_, rfl, _, rfl, xf, xn, _, _, _, _, _, _, rfl, pf2, pn, by decide, fun Ha ea => ?_⟩
    refine ⟨_, _, rfl, rfl, ⟨by decide, by decide, by decide⟩, _, _, rfl, rfl, .inl ⟨by decide, by decide⟩, _, _, rfl, rfl, ?_⟩
    rw [fb_far]
    refine ⟨rfl, _, rfl, ifTrue (decide_eq_true rfl) ?_⟩
    have pf3 := pf2.same ea
    have pn3 := pn.same ea
    refine ⟨_, rfl, _, rfl, xf, xn, rfl, rfl, pf3.ins, pn3.ins, xf, xn, _, _, _, _, _, _, rfl, pf3, pn3, fun Hb eb => ⟨_, rfl, _, rfl, ifTrue (by decide) ?_⟩⟩
    have pn4 := pn3.same eb
    refine ⟨_, rfl, fun x3 dx3 n3 nd3 _ => ⟨x3, dx3, 1, -1, 1, rfl, upd_same, rfl, ?_⟩⟩
    have pn5 := pn4.same (made_same (C := a.Place) (f := plF 1 (-1) 1) n3 nd3)
    have p3 : PlaceAt (upd (upd (upd Hb dx3 (.own x3)) x3 (.ins a.Place dx3 [])) x3 (.ins a.Place dx3 (plF 1 (-1) 1))) a.Place x3 1 (-1) 1 := ⟨dx3, upd_same⟩
    refine ⟨_, rfl, x3, xn, rfl, rfl, p3.ins, pn5.ins, x3, xn, _, _, _, _, _, _, rfl, p3, pn5, fun Hc _ => ?_⟩
    show Q (.bl (gGe 1 (-1) 1 0 0 0)) Hc
    rw [show gGe 1 (-1) 1 0 0 0 = true from by decide]
    exact k Hc
end
end Pf
end
section
namespace Pf
open PySem PySem.Spec PyProof.Rows L2 Ow StX

theorem fnt_mk {K : PySem.W.Frag} {x qual : Str} {st : Stmt} {f : Addr} {oc : Value} {od an : Option Addr} {osl : Array (Option Value)} {kV doc pm cdv ct : Value}
    (l : K.lookup f = some ⟨oc, od, .func (PySem.W.fnOf x qual (defArgs st) (defBody st) (defScope st) .none kV doc pm an cdv ct), osl⟩) (c : PySem.W.codeIn K cdv qual = true) (k : PySem.W.keepIn K (.ref f) = true) : FnT K x qual st [] f :=
  ⟨_, ⟨⟨oc, od, .none, kV, doc, pm, an, cdv, ct, osl, rfl, l, c, .inl ⟨rfl, rfl⟩, .inl rfl⟩, k⟩⟩
theorem fntD_mk {K : PySem.W.Frag} {x qual : Str} {st : Stmt} {f D : Addr} {oc : Value} {od an : Option Addr} {osl : Array (Option Value)} {kV doc pm cdv ct tc : Value} {td : Option Addr} {tn : Nat} {ts : Array (Option Value)} {its : List Value} {dvs : List V}
    (l : K.lookup f = some ⟨oc, od, .func (PySem.W.fnOf x qual (defArgs st) (defBody st) (defScope st) (.ref D) kV doc pm an cdv ct), osl⟩) (c : PySem.W.codeIn K cdv qual = true) (k : PySem.W.keepIn K (.ref f) = true)
    (t : K.lookup D = some ⟨tc, td, .seq its.toArray tn, ts⟩) (hd : dvs ≠ []) (v : Vals dvs its) : FnT K x qual st dvs f :=
  ⟨_, ⟨⟨oc, od, .ref D, kV, doc, pm, an, cdv, ct, osl, rfl, l, c, .inr ⟨hd, D, _, its, tn, rfl, t, rfl, v⟩, .inl rfl⟩, k⟩⟩
theorem fntD1_mk {K : PySem.W.Frag} {x qual : Str} {st : Stmt} {f D : Addr} {oc : Value} {od an : Option Addr} {osl : Array (Option Value)} {kV doc pm cdv ct tc u : Value} {td : Option Addr} {tn : Nat} {ts : Array (Option Value)} {dv : V}
    (l : K.lookup f = some ⟨oc, od, .func (PySem.W.fnOf x qual (defArgs st) (defBody st) (defScope st) (.ref D) kV doc pm an cdv ct), osl⟩) (c : PySem.W.codeIn K cdv qual = true) (k : PySem.W.keepIn K (.ref f) = true)
    (t : K.lookup D = some ⟨tc, td, .seq #[u] tn, ts⟩) (v : RelV dv u) : FnT K x qual st [dv] f := fntD_mk (its := [u]) l c k t (by simp) (.cons v .nil)
theorem propR_mk {K : PySem.W.Frag} {C p g : Addr} {f : Str} {rest : List Value} (h1 : PySem.W.findIn K (.ref C) f = some (some (.ref p))) (h2 : PySem.W.specialIn K (.ref p) "__get__" = some (some (.builtin "property.__get__")))
    (h3 : PySem.W.takesIn K (.ref p) = some true) (h4 : PySem.W.recIn K p "property" = some (.ref g :: rest)) : PropR K C f p g := ⟨h1, h2, h3, rest, h4⟩
theorem mro2_mk {K : PySem.W.Frag} {C : Addr} {cd : PySem.ClassData} (h : PySem.W.clsIn K C = some cd) (m : (cd.mro == [.ref C, .type "object"]) = true) : mro2 K C = true := by
  unfold mro2
  rw [h]
  exact m
theorem all_mk {l : PySem.W.OpenLaw} {w : World} {K : PySem.W.Frag} {h : Heap} {mg : Str → Option Value} {fa : Addr} (X : K.In h) (G : h.Ns mainGlobals mg) (hfa : mg "law" = some (.ref fa))
    {x_is_int x_Place_init x_Place_slope x_Place_offset x_Place_odd x_parts_of x_Place_sub x_never_below x_first_above x_Place_le x_Place_lt x_Place_ge x_Place_gt x_first_beyond x__law_bag x__law_draw x__law_at x__law_place x__law_drawn x__law_near x__law_gap x__law_is_always x__law_first x_law x_Place x_pr_Place_slope x_pr_Place_offset x_pr_Place_odd : Addr}
    (n_len : PySem.W.nsIn K mainGlobals "len" = some none)
    (n_int : PySem.W.nsIn K mainGlobals "int" = some none)
    (n_abs : PySem.W.nsIn K mainGlobals "abs" = some none)
    (n_list : PySem.W.nsIn K mainGlobals "list" = some none)
    (n_isinstance : PySem.W.nsIn K mainGlobals "isinstance" = some none)
    (n_bool : PySem.W.nsIn K mainGlobals "bool" = some none)
    (n_range : PySem.W.nsIn K mainGlobals "range" = some none)
    (n_repr : PySem.W.nsIn K mainGlobals "repr" = some none)
    (n_min : PySem.W.nsIn K mainGlobals "min" = some none)
    (n_max : PySem.W.nsIn K mainGlobals "max" = some none)
    (m_is_int : PySem.W.nsIn K mainGlobals "is_int" = some (some (.ref x_is_int)))
    (m_parts_of : PySem.W.nsIn K mainGlobals "parts_of" = some (some (.ref x_parts_of)))
    (m_never_below : PySem.W.nsIn K mainGlobals "never_below" = some (some (.ref x_never_below)))
    (m_first_above : PySem.W.nsIn K mainGlobals "first_above" = some (some (.ref x_first_above)))
    (m_first_beyond : PySem.W.nsIn K mainGlobals "first_beyond" = some (some (.ref x_first_beyond)))
    (m__law_bag : PySem.W.nsIn K mainGlobals "_law_bag" = some (some (.ref x__law_bag)))
    (m__law_draw : PySem.W.nsIn K mainGlobals "_law_draw" = some (some (.ref x__law_draw)))
    (m__law_at : PySem.W.nsIn K mainGlobals "_law_at" = some (some (.ref x__law_at)))
    (m__law_place : PySem.W.nsIn K mainGlobals "_law_place" = some (some (.ref x__law_place)))
    (m__law_drawn : PySem.W.nsIn K mainGlobals "_law_drawn" = some (some (.ref x__law_drawn)))
    (m__law_near : PySem.W.nsIn K mainGlobals "_law_near" = some (some (.ref x__law_near)))
    (m__law_gap : PySem.W.nsIn K mainGlobals "_law_gap" = some (some (.ref x__law_gap)))
    (m__law_is_always : PySem.W.nsIn K mainGlobals "_law_is_always" = some (some (.ref x__law_is_always)))
    (m__law_first : PySem.W.nsIn K mainGlobals "_law_first" = some (some (.ref x__law_first)))
    (m_law : PySem.W.nsIn K mainGlobals "law" = some (some (.ref x_law)))
    (m_Place : PySem.W.nsIn K mainGlobals "Place" = some (some (.ref x_Place)))
    (c_Place : ClsF K x_Place)
    (M_Place : Mk K x_Place x_Place_init)
    (a_Place__slope : PySem.W.findIn K (.ref x_Place) "_slope" = some none)
    (a_Place__offset : PySem.W.findIn K (.ref x_Place) "_offset" = some none)
    (a_Place__odd : PySem.W.findIn K (.ref x_Place) "_odd" = some none)
    (p_Place_slope : PropR K x_Place "slope" x_pr_Place_slope x_Place_slope)
    (p_Place_offset : PropR K x_Place "offset" x_pr_Place_offset x_Place_offset)
    (p_Place_odd : PropR K x_Place "odd" x_pr_Place_odd x_Place_odd)
    (o_Place_sub : PySem.W.findIn K (.ref x_Place) "__sub__" = some (some (.ref x_Place_sub)))
    (f_Place_sub : PySem.W.isFn K (.ref x_Place_sub) = true)
    (o_Place_le : PySem.W.findIn K (.ref x_Place) "__le__" = some (some (.ref x_Place_le)))
    (f_Place_le : PySem.W.isFn K (.ref x_Place_le) = true)
    (o_Place_lt : PySem.W.findIn K (.ref x_Place) "__lt__" = some (some (.ref x_Place_lt)))
    (f_Place_lt : PySem.W.isFn K (.ref x_Place_lt) = true)
    (o_Place_ge : PySem.W.findIn K (.ref x_Place) "__ge__" = some (some (.ref x_Place_ge)))
    (f_Place_ge : PySem.W.isFn K (.ref x_Place_ge) = true)
    (o_Place_gt : PySem.W.findIn K (.ref x_Place) "__gt__" = some (some (.ref x_Place_gt)))
    (f_Place_gt : PySem.W.isFn K (.ref x_Place_gt) = true)
    (s_Place_first : PySem.W.selfFirst K x_Place = true)
    (s_Place_int : PySem.W.subIn K (.type "int") (.ref x_Place) = some false)
    (s_Place_not : PySem.W.notFirst K x_Place (.ref x_Place) = true)
    (o_sub : PySem.W.findIn K (.ref x_Place) (PySem.dunder "sub") = some (some (.ref x_Place_sub)))
    (d_is_int : FnT K "is_int" "is_int" s_is_int [] x_is_int)
    (k_is_int : PySem.W.keepIn K (.ref x_is_int) = true)
    (d_Place_init : FnT K "__init__" "Place.__init__" s_Place_init [.int 0] x_Place_init)
    (d_Place_slope : FnT K "slope" "Place.slope" s_Place_slope [] x_Place_slope)
    (d_Place_offset : FnT K "offset" "Place.offset" s_Place_offset [] x_Place_offset)
    (d_Place_odd : FnT K "odd" "Place.odd" s_Place_odd [] x_Place_odd)
    (d_parts_of : FnT K "parts_of" "parts_of" s_parts_of [] x_parts_of)
    (k_parts_of : PySem.W.keepIn K (.ref x_parts_of) = true)
    (d_Place_sub : FnT K "__sub__" "Place.__sub__" s_Place_sub [] x_Place_sub)
    (d_never_below : FnT K "never_below" "never_below" s_never_below [] x_never_below)
    (k_never_below : PySem.W.keepIn K (.ref x_never_below) = true)
    (d_first_above : FnT K "first_above" "first_above" s_first_above [] x_first_above)
    (k_first_above : PySem.W.keepIn K (.ref x_first_above) = true)
    (d_Place_le : FnT K "__le__" "Place.__le__" s_Place_le [] x_Place_le)
    (d_Place_lt : FnT K "__lt__" "Place.__lt__" s_Place_lt [] x_Place_lt)
    (d_Place_ge : FnT K "__ge__" "Place.__ge__" s_Place_ge [] x_Place_ge)
    (d_Place_gt : FnT K "__gt__" "Place.__gt__" s_Place_gt [] x_Place_gt)
    (d_first_beyond : FnT K "first_beyond" "first_beyond" s_first_beyond [] x_first_beyond)
    (k_first_beyond : PySem.W.keepIn K (.ref x_first_beyond) = true)
    (d__law_bag : FnT K "_law_bag" "_law_bag" s__law_bag [] x__law_bag)
    (k__law_bag : PySem.W.keepIn K (.ref x__law_bag) = true)
    (d__law_draw : FnT K "_law_draw" "_law_draw" s__law_draw [] x__law_draw)
    (k__law_draw : PySem.W.keepIn K (.ref x__law_draw) = true)
    (d__law_at : FnT K "_law_at" "_law_at" s__law_at [] x__law_at)
    (k__law_at : PySem.W.keepIn K (.ref x__law_at) = true)
    (d__law_place : FnT K "_law_place" "_law_place" s__law_place [] x__law_place)
    (k__law_place : PySem.W.keepIn K (.ref x__law_place) = true)
    (d__law_drawn : FnT K "_law_drawn" "_law_drawn" s__law_drawn [] x__law_drawn)
    (k__law_drawn : PySem.W.keepIn K (.ref x__law_drawn) = true)
    (d__law_near : FnT K "_law_near" "_law_near" s__law_near [] x__law_near)
    (k__law_near : PySem.W.keepIn K (.ref x__law_near) = true)
    (d__law_gap : FnT K "_law_gap" "_law_gap" s__law_gap [] x__law_gap)
    (k__law_gap : PySem.W.keepIn K (.ref x__law_gap) = true)
    (d__law_is_always : FnT K "_law_is_always" "_law_is_always" s__law_is_always [] x__law_is_always)
    (k__law_is_always : PySem.W.keepIn K (.ref x__law_is_always) = true)
    (d__law_first : FnT K "_law_first" "_law_first" s__law_first [] x__law_first)
    (k__law_first : PySem.W.keepIn K (.ref x__law_first) = true)
    (d_law : FnT K "law" "law" s_law [] x_law)
    (k_law : PySem.W.keepIn K (.ref x_law) = true)
    : ∀ base : Heap, K.In base → base.Ns mainGlobals mg → FnG l.prog w K mg base CX0 6 fa (spLaw K) := by
  have e := hfa.symm.trans (PySem.W.mg_of X G m_law)
  have e2 : x_law = fa := by
    cases e
    rfl
  subst e2
  have T : Txt K mg ⟨x_is_int, x_Place_init, x_Place_slope, x_Place_offset, x_Place_odd, x_parts_of, x_Place_sub, x_never_below, x_first_above, x_Place_le, x_Place_lt, x_Place_ge, x_Place_gt, x_first_beyond, x__law_bag, x__law_draw, x__law_at, x__law_place, x__law_drawn, x__law_near, x__law_gap, x__law_is_always, x__law_first, x_law, x_Place, x_pr_Place_slope, x_pr_Place_offset, x_pr_Place_odd⟩ :=
    { n_len := PySem.W.mg_none_of X G n_len,
      n_int := PySem.W.mg_none_of X G n_int,
      n_abs := PySem.W.mg_none_of X G n_abs,
      n_list := PySem.W.mg_none_of X G n_list,
      n_isinstance := PySem.W.mg_none_of X G n_isinstance,
      n_bool := PySem.W.mg_none_of X G n_bool,
      n_range := PySem.W.mg_none_of X G n_range,
      n_repr := PySem.W.mg_none_of X G n_repr,
      n_min := PySem.W.mg_none_of X G n_min,
      n_max := PySem.W.mg_none_of X G n_max,
      d_is_int := d_is_int,
      m_is_int := PySem.W.mg_of X G m_is_int,
      k_is_int := k_is_int,
      d_Place_init := d_Place_init,
      d_Place_slope := d_Place_slope,
      d_Place_offset := d_Place_offset,
      d_Place_odd := d_Place_odd,
      d_parts_of := d_parts_of,
      m_parts_of := PySem.W.mg_of X G m_parts_of,
      k_parts_of := k_parts_of,
      d_Place_sub := d_Place_sub,
      d_never_below := d_never_below,
      m_never_below := PySem.W.mg_of X G m_never_below,
      k_never_below := k_never_below,
      d_first_above := d_first_above,
      m_first_above := PySem.W.mg_of X G m_first_above,
      k_first_above := k_first_above,
      d_Place_le := d_Place_le,
      d_Place_lt := d_Place_lt,
      d_Place_ge := d_Place_ge,
      d_Place_gt := d_Place_gt,
      d_first_beyond := d_first_beyond,
      m_first_beyond := PySem.W.mg_of X G m_first_beyond,
      k_first_beyond := k_first_beyond,
      d__law_bag := d__law_bag,
      m__law_bag := PySem.W.mg_of X G m__law_bag,
      k__law_bag := k__law_bag,
      d__law_draw := d__law_draw,
      m__law_draw := PySem.W.mg_of X G m__law_draw,
      k__law_draw := k__law_draw,
      d__law_at := d__law_at,
      m__law_at := PySem.W.mg_of X G m__law_at,
      k__law_at := k__law_at,
      d__law_place := d__law_place,
      m__law_place := PySem.W.mg_of X G m__law_place,
      k__law_place := k__law_place,
      d__law_drawn := d__law_drawn,
      m__law_drawn := PySem.W.mg_of X G m__law_drawn,
      k__law_drawn := k__law_drawn,
      d__law_near := d__law_near,
      m__law_near := PySem.W.mg_of X G m__law_near,
      k__law_near := k__law_near,
      d__law_gap := d__law_gap,
      m__law_gap := PySem.W.mg_of X G m__law_gap,
      k__law_gap := k__law_gap,
      d__law_is_always := d__law_is_always,
      m__law_is_always := PySem.W.mg_of X G m__law_is_always,
      k__law_is_always := k__law_is_always,
      d__law_first := d__law_first,
      m__law_first := PySem.W.mg_of X G m__law_first,
      k__law_first := k__law_first,
      d_law := d_law,
      m_law := PySem.W.mg_of X G m_law,
      k_law := k_law,
      m_Place := PySem.W.mg_of X G m_Place,
      c_Place := c_Place,
      M_Place := M_Place,
      a_Place__slope := a_Place__slope,
      a_Place__offset := a_Place__offset,
      a_Place__odd := a_Place__odd,
      p_Place_slope := p_Place_slope,
      p_Place_offset := p_Place_offset,
      p_Place_odd := p_Place_odd,
      o_Place_sub := o_Place_sub,
      f_Place_sub := f_Place_sub,
      o_Place_le := o_Place_le,
      f_Place_le := f_Place_le,
      o_Place_lt := o_Place_lt,
      f_Place_lt := f_Place_lt,
      o_Place_ge := o_Place_ge,
      f_Place_ge := f_Place_ge,
      o_Place_gt := o_Place_gt,
      f_Place_gt := f_Place_gt,
      s_Place_first := s_Place_first,
      s_Place_int := s_Place_int,
      s_Place_not := s_Place_not,
      o_sub := o_sub }
  exact fun base _ _ => ok_law T
theorem walk {l : PySem.W.OpenLaw} {q : Program} {loose : List Str} {XP : (Str → Option Value) → Heap → Prop} {YP : World → Heap → Prop} {d : DefRec} {K : Params → PySem.W.Frag} (hn : l.most = some 63) (hdf : d.params.defaults = [])
    (hY : ∀ (w : World) (h : Heap), YP w h → (K w.params).In h)
    (F : ∀ (w : World) (mg : Str → Option Value) (fa : Addr) (h : Heap), (K w.params).In h → h.Ns mainGlobals mg → mg d.name = some (.ref fa) →
      ∀ base : Heap, (K w.params).In base → base.Ns mainGlobals mg → FnG l.prog w (K w.params) mg base CX0 6 fa (spLaw (K w.params))) :
    PySem.W.WalkO q loose XP YP l.row.toRowW d [] (fun f vs => PySem.call f vs) :=
  Ow.walk_ofG (n := 63) (k := 6) (sp := fun w => spLaw (K w.params)) hn (by decide) hdf ⟨rfl, by decide, by decide⟩ hY F (fun _ _ a ns hl _ hS => ⟨a, ns, rfl, hS, hl, fun _ => rfl⟩)
end Pf
end
open PySem PySem.W PyProof.Rows
set_option maxRecDepth 100000 in
set_option maxHeartbeats 0 in
theorem PySem.Challenge.cw_heldfloods_k04_places_in_order_holds : PySem.Challenge.rw_heldfloods_k04_places_in_order.Holds := by
  w_on; o_law; k_head; (case hw => w_witness2)
  k_fill
  refine Pf.walk (l := PySem.Challenge.rw_heldfloods_k04_places_in_order) rfl rfl (fun w h Y => PySem.W.kIn_of Y) ?F
  case F =>
    intro w mg fa h KX G hmg
    refine' Pf.all_mk KX G hmg ?n_len ?n_int ?n_abs ?n_list ?n_isinstance ?n_bool ?n_range ?n_repr ?n_min ?n_max ?m_is_int ?m_parts_of ?m_never_below ?m_first_above ?m_first_beyond ?m__law_bag ?m__law_draw ?m__law_at ?m__law_place ?m__law_drawn ?m__law_near ?m__law_gap ?m__law_is_always ?m__law_first ?m_law ?m_Place ?c_Place ?M_Place ?a_Place__slope ?a_Place__offset ?a_Place__odd ?p_Place_slope ?p_Place_offset ?p_Place_odd ?o_Place_sub ?f_Place_sub ?o_Place_le ?f_Place_le ?o_Place_lt ?f_Place_lt ?o_Place_ge ?f_Place_ge ?o_Place_gt ?f_Place_gt ?s_Place_first ?s_Place_int ?s_Place_not ?o_sub ?d_is_int ?k_is_int ?d_Place_init ?d_Place_slope ?d_Place_offset ?d_Place_odd ?d_parts_of ?k_parts_of ?d_Place_sub ?d_never_below ?k_never_below ?d_first_above ?k_first_above ?d_Place_le ?d_Place_lt ?d_Place_ge ?d_Place_gt ?d_first_beyond ?k_first_beyond ?d__law_bag ?k__law_bag ?d__law_draw ?k__law_draw ?d__law_at ?k__law_at ?d__law_place ?k__law_place ?d__law_drawn ?k__law_drawn ?d__law_near ?k__law_near ?d__law_gap ?k__law_gap ?d__law_is_always ?k__law_is_always ?d__law_first ?k__law_first ?d_law ?k_law
    (case n_len => k_is)
    (case n_int => k_is)
    (case n_abs => k_is)
    (case n_list => k_is)
    (case n_isinstance => k_is)
    (case n_bool => k_is)
    (case n_range => k_is)
    (case n_repr => k_is)
    (case n_min => k_is)
    (case n_max => k_is)
    (case m_is_int => k_is)
    (case m_parts_of => k_is)
    (case m_never_below => k_is)
    (case m_first_above => k_is)
    (case m_first_beyond => k_is)
    (case m__law_bag => k_is)
    (case m__law_draw => k_is)
    (case m__law_at => k_is)
    (case m__law_place => k_is)
    (case m__law_drawn => k_is)
    (case m__law_near => k_is)
    (case m__law_gap => k_is)
    (case m__law_is_always => k_is)
    (case m__law_first => k_is)
    (case m_law => k_is)
    (case m_Place => k_is)
    (case c_Place => (refine' ⟨⟨?_, ?_, ?_, ?_⟩, ?_, ?_, ?_, ?_, ?_, ?_⟩ <;> k_is))
    (case M_Place => (refine' ⟨?a, ?b, ?c, ?d⟩; (case a => k_is); (case b => k_is); (case c => k_is); (case d => k_is)))
    (case a_Place__slope => k_is)
    (case a_Place__offset => k_is)
    (case a_Place__odd => k_is)
    (case p_Place_slope => (refine' Pf.propR_mk ?a ?b ?c ?d; (case a => k_is); (case b => k_is); (case c => k_is); (case d => k_is)))
    (case p_Place_offset => (refine' Pf.propR_mk ?a ?b ?c ?d; (case a => k_is); (case b => k_is); (case c => k_is); (case d => k_is)))
    (case p_Place_odd => (refine' Pf.propR_mk ?a ?b ?c ?d; (case a => k_is); (case b => k_is); (case c => k_is); (case d => k_is)))
    (case o_Place_sub => k_is)
    (case f_Place_sub => k_is)
    (case o_Place_le => k_is)
    (case f_Place_le => k_is)
    (case o_Place_lt => k_is)
    (case f_Place_lt => k_is)
    (case o_Place_ge => k_is)
    (case f_Place_ge => k_is)
    (case o_Place_gt => k_is)
    (case f_Place_gt => k_is)
    (case s_Place_first => k_is)
    (case s_Place_int => k_is)
    (case s_Place_not => k_is)
    (case o_sub => k_is)
    (case d_is_int => (refine' Pf.fnt_mk ?l ?c ?k; (case l => k_is); (case c => k_is); (case k => k_is)))
    (case k_is_int => k_is)
    (case d_Place_init => (refine' Pf.fntD1_mk ?l ?c ?k ?t ?v; (case l => k_is); (case c => k_is); (case k => k_is); (case t => k_is); (case v => first | exact ⟨_, rfl⟩ | rfl)))
    (case d_Place_slope => (refine' Pf.fnt_mk ?l ?c ?k; (case l => k_is); (case c => k_is); (case k => k_is)))
    (case d_Place_offset => (refine' Pf.fnt_mk ?l ?c ?k; (case l => k_is); (case c => k_is); (case k => k_is)))
    (case d_Place_odd => (refine' Pf.fnt_mk ?l ?c ?k; (case l => k_is); (case c => k_is); (case k => k_is)))
    (case d_parts_of => (refine' Pf.fnt_mk ?l ?c ?k; (case l => k_is); (case c => k_is); (case k => k_is)))
    (case k_parts_of => k_is)
    (case d_Place_sub => (refine' Pf.fnt_mk ?l ?c ?k; (case l => k_is); (case c => k_is); (case k => k_is)))
    (case d_never_below => (refine' Pf.fnt_mk ?l ?c ?k; (case l => k_is); (case c => k_is); (case k => k_is)))
    (case k_never_below => k_is)
    (case d_first_above => (refine' Pf.fnt_mk ?l ?c ?k; (case l => k_is); (case c => k_is); (case k => k_is)))
    (case k_first_above => k_is)
    (case d_Place_le => (refine' Pf.fnt_mk ?l ?c ?k; (case l => k_is); (case c => k_is); (case k => k_is)))
    (case d_Place_lt => (refine' Pf.fnt_mk ?l ?c ?k; (case l => k_is); (case c => k_is); (case k => k_is)))
    (case d_Place_ge => (refine' Pf.fnt_mk ?l ?c ?k; (case l => k_is); (case c => k_is); (case k => k_is)))
    (case d_Place_gt => (refine' Pf.fnt_mk ?l ?c ?k; (case l => k_is); (case c => k_is); (case k => k_is)))
    (case d_first_beyond => (refine' Pf.fnt_mk ?l ?c ?k; (case l => k_is); (case c => k_is); (case k => k_is)))
    (case k_first_beyond => k_is)
    (case d__law_bag => (refine' Pf.fnt_mk ?l ?c ?k; (case l => k_is); (case c => k_is); (case k => k_is)))
    (case k__law_bag => k_is)
    (case d__law_draw => (refine' Pf.fnt_mk ?l ?c ?k; (case l => k_is); (case c => k_is); (case k => k_is)))
    (case k__law_draw => k_is)
    (case d__law_at => (refine' Pf.fnt_mk ?l ?c ?k; (case l => k_is); (case c => k_is); (case k => k_is)))
    (case k__law_at => k_is)
    (case d__law_place => (refine' Pf.fnt_mk ?l ?c ?k; (case l => k_is); (case c => k_is); (case k => k_is)))
    (case k__law_place => k_is)
    (case d__law_drawn => (refine' Pf.fnt_mk ?l ?c ?k; (case l => k_is); (case c => k_is); (case k => k_is)))
    (case k__law_drawn => k_is)
    (case d__law_near => (refine' Pf.fnt_mk ?l ?c ?k; (case l => k_is); (case c => k_is); (case k => k_is)))
    (case k__law_near => k_is)
    (case d__law_gap => (refine' Pf.fnt_mk ?l ?c ?k; (case l => k_is); (case c => k_is); (case k => k_is)))
    (case k__law_gap => k_is)
    (case d__law_is_always => (refine' Pf.fnt_mk ?l ?c ?k; (case l => k_is); (case c => k_is); (case k => k_is)))
    (case k__law_is_always => k_is)
    (case d__law_first => (refine' Pf.fnt_mk ?l ?c ?k; (case l => k_is); (case c => k_is); (case k => k_is)))
    (case k__law_first => k_is)
    (case d_law => (refine' Pf.fnt_mk ?l ?c ?k; (case l => k_is); (case c => k_is); (case k => k_is)))
    (case k_law => k_is)
