import PyProof.Rows.All
import Wide.All
import OpenK.AllK
import Wide.FinOn
import PyProof.StationsW
import OpenK.KGet
import PyProof.ExcInit
import PyProof.ExcBaseAll.Exception
import OpenK.KMake
import PyProof.InstStoreFacts
import PyProof.ExcArgs
import PyProof.EqAt
import PyProof.EqKinds
import PyProof.TupleCall
import KE.BitLaws
import Open.SpecLaws
import KE.OsHead
import KE.SpHead
import KE.OsShapes
import PyProof.WalkInts
import KE.KMinKey
import KE.OsGo
import PySem.Challenge.RW_recipetexts_s03_tree
section
set_option Elab.async false
set_option linter.all false
set_option maxRecDepth 100000
namespace LX
open PySem PySem.Spec PyProof.Rows
def Tr (h B : Heap) (e C dx : Addr) (fl : Value) : Prop :=
  ∃ (oe : Obj) (vs : Array Value) (T : Addr) (oT : Obj) (ts : Array Value), (h.get? e = some oe /\ oe.cls = .ref C /\ oe.dict = some dx /\ oe.data = .fields vs /\ vs[1]? = some (.ref T)) /\ (B.get? T = none /\ T ≠ e) /\ h.get? T = some oT /\ oT.data = .fields ts /\ ts[3]? = some fl
structure Note (B : Heap) (l : List Env) (e C dx : Addr) (fl : Value) (h h' : Heap) : Prop where
  st : B.StaysIn h'
  ff : h'.FunFrames B l
  tr : Tr h' B e C dx fl
  up : h.UpToSlots h'
structure Fly (B : Heap) (l : List Env) (e C dx : Addr) (fl : Value) (h : Heap) : Prop where
  st : B.StaysIn h
  nw : B.get? e = none
  ff : h.FunFrames B l
  tr : Tr h B e C dx fl
section
variable {M : Model} {A : Around} {E : Value -> Shared -> Prop} {s : Shared} {B : Heap} {env : Env} {outer : List Env} {L e C dx : Addr} {Q : Unit -> Shared -> Prop}
theorem station {oe : Obj} {vs : Array Value} {head : Value} {had : Bool}
    (hfr : A.frames = some (env :: outer)) (hl : s.heap.FunFrames B (env :: outer)) (hf : env.frame = some L)
    (he : s.heap.get? e = some oe) (hc : oe.cls = .ref C) (hdx : oe.dict = some dx) (hd : oe.data = .fields vs) (hsz : 1 < vs.size) (hst : B.StaysIn s.heap) (hnw : B.get? e = none)
    (h : ∀ h', Note B (env :: outer) e C dx (rawInt L) s.heap h' -> Q () { s with heap := h' }) :
    wpAny M A (do let a <- frameOf env; let pl <- entryPlaceOf L had; let b <- EntryCells.newEntry head a .none (rawInt L) .none pl; setField (.ref e) 1 b) Q E s := by
  have nofr : e ∉ (env :: outer).filterMap (·.frame) := by
    intro hm
    obtain ⟨_, o, ho, hnf⟩ := hl.mem hm
    obtain rfl : oe = o := Option.some.inj (he.symm.trans ho)
    exact hnf vs hd
  refine wpAny_bind (wpAny_frameOf_fun hfr hl hf fun h1 hs1 => ?_)
  refine wpAny_bind (wpAny_entryPlaceOf fun pl hpl => ?_)
  unfold EntryCells.newEntry newFields
  refine wpAny_bind (wpAny_newObj_type ?_ (hpl.sizeOk5 _ _ _ _ _))
  have e1 : h1.get? e = some oe := (hs1.2.1 e nofr).trans he
  have st1 : B.StaysIn h1 := fun b o q => (hs1.2.1 b fun hm => by
    have z := (hl.mem hm).1
    rw [q] at z
    cases z).trans (hst b o q)
  generalize hN : ({ cls := .type "traceback", dict := none, data := .fields ([head, .ref L, .none, rawInt L, .none] ++ (if pl.isEmpty then List.replicate 6 Value.none else pl)).toArray } : Obj) = nT
  have dT : nT.data = .fields ([head, .ref L, .none, rawInt L, .none] ++ (if pl.isEmpty then List.replicate 6 Value.none else pl)).toArray := by rw [<- hN]
  have fT : nT.isFreed = false := by rw [<- hN]; rfl
  have e2 := Heap.get?_push_of_some (h := h1) nT e1
  refine wpAny_setField e2 hd hsz (h _ ?_)
  have Te : h1.objs.size ≠ e := Nat.ne_of_gt (Heap.lt_size e1)
  have d3 := Obj.data_mapFields hd (·.setIfInBounds 1 (Value.ref h1.objs.size))
  have e3 := Heap.get?_update_self (Obj.mapFields (·.setIfInBounds 1 (Value.ref h1.objs.size))) e2 (Obj.isFreed_of_fields d3)
  have T3 := (Heap.get?_update_other (h1.push nT) (Obj.mapFields (·.setIfInBounds 1 (Value.ref h1.objs.size))) (Ne.symm Te)).trans (Heap.get?_push_size h1 fT)
  have kp : ∀ b o, b ≠ e -> h1.get? b = some o -> ((h1.push nT).update e (Obj.mapFields (·.setIfInBounds 1 (Value.ref h1.objs.size)))).get? b = some o := by
    intro b o be q
    rw [Heap.get?_update_other _ _ (Ne.symm be)]
    exact Heap.get?_push_of_some _ q
  have rec_ne : ∀ b o, s.heap.get? b = some o -> (∀ ws, o.data ≠ .fields ws) -> b ≠ e := by
    intro b o q hnf z
    subst z
    obtain rfl : oe = o := Option.some.inj (he.symm.trans q)
    exact hnf vs hd
  refine ⟨fun b o q => kp b o (fun z => by subst z; rw [hnw] at q; cases q) (st1 b o q), hl.of_keeps fun b o q hnf => ?_, ?_, fun b o q hnf => ?_⟩
  · obtain ⟨sl, hs⟩ := hs1.2.2 b o q
    exact ⟨_, kp b _ (rec_ne b o q hnf) hs, rfl⟩
  · refine ⟨_, _, h1.objs.size, nT, _, ⟨e3, ?_, ?_, d3, by simp [hsz]⟩, ⟨st1.fresh, Te⟩, T3, dT, ?_⟩
    · rw [Obj.cls_mapFields]; exact hc
    · have : ∀ (f : Array Value -> Array Value) (o : Obj), (Obj.mapFields f o).dict = o.dict := fun f o => by
        obtain ⟨c, d, dt, sl⟩ := o
        cases dt <;> rfl
      rw [this]; exact hdx
    · first
        | (simp; done)
        | (rcases hpl with rfl | ⟨_, _, _, _, _, _, _, rfl⟩ <;> simp)
  · obtain ⟨sl, hs⟩ := hs1.2.2 b o q
    exact ⟨sl, kp b _ (rec_ne b o q hnf) hs⟩
theorem note_first {oe : Obj} {vs : Array Value}
    (hfr : A.frames = some (env :: outer)) (hl : s.heap.FunFrames B (env :: outer)) (hf : env.frame = some L)
    (he : s.heap.get? e = some oe) (hc : oe.cls = .ref C) (hdx : oe.dict = some dx) (hd : oe.data = .fields vs) (h1 : vs[1]? = some .none) (hst : B.StaysIn s.heap) (hnw : B.get? e = none)
    (h : ∀ h', Note B (env :: outer) e C dx (rawInt L) s.heap h' -> Q () { s with heap := h' }) : wpAny M A (noteFrame (.ref e) env) Q E s := by
  unfold noteFrame
  simp only [hf]
  refine wpAny_bind (wpAny_field he hd h1 ?_)
  rw [if_neg (by decide)]
  exact station hfr hl hf he hc hdx hd (Array.getElem?_eq_some_iff.mp h1).1 hst hnw h
theorem note_next (hfr : A.frames = some (env :: outer)) (hf : env.frame = some L) (F : Fly B (env :: outer) e C dx .none s.heap)
    (h : ∀ h', Note B (env :: outer) e C dx (rawInt L) s.heap h' -> Q () { s with heap := h' }) : wpAny M A (noteFrame (.ref e) env) Q E s := by
  obtain ⟨hst, hnw, hl, oe, vs, T, oT, ts, ⟨he, hc, hdx, hd, h1⟩, ⟨hnT, hTe⟩, hT, hdT, h3⟩ := F
  unfold noteFrame
  simp only [hf]
  refine wpAny_bind (wpAny_field he hd h1 ?_)
  have t1 : (Value.ref T != Value.none) = true := by simp
  rw [if_pos t1]
  refine wpAny_bind (wpAny_field hT hdT h3 ?_)
  have t2 : ¬ ((Value.none == rawInt L) = true) := by simp [rawInt]
  rw [if_neg t2]
  refine wpAny_bind (wpAny_setField hT hdT (Array.getElem?_eq_some_iff.mp h3).1 ?_)
  have oth : ∀ b, b ≠ T -> (s.heap.update T (Obj.mapFields (·.setIfInBounds 3 Value.none))).get? b = s.heap.get? b := fun b z => Heap.get?_update_other _ _ (Ne.symm z)
  have rec_ne : ∀ b o, s.heap.get? b = some o -> (∀ ws, o.data ≠ .fields ws) -> b ≠ T := by
    intro b o q hnf z
    subst z
    obtain rfl : oT = o := Option.some.inj (hT.symm.trans q)
    exact hnf ts hdT
  refine station hfr (hl.of_keeps fun b o q hnf => ⟨o, (oth b (rec_ne b o q hnf)).trans q, rfl⟩) hf ((oth e (Ne.symm hTe)).trans he) hc hdx hd (Array.getElem?_eq_some_iff.mp h1).1
    (fun b o q => (oth b fun z => by subst z; rw [hnT] at q; cases q).trans (hst b o q)) hnw fun h' N => h h' ⟨N.st, N.ff, N.tr, fun b o q hnf => N.up b o ((oth b (rec_ne b o q hnf)).trans q) hnf⟩
theorem flight_off {l : List Env} {fl : Value} (F : Fly B l e C dx fl s.heap) (h : ∀ h', Fly B l e C dx .none h' -> s.heap.UpToSlots h' -> Q () { s with heap := h' }) : wpAny M A (setFlight (.ref e) none) Q E s := by
  obtain ⟨hst, hnw, hl, oe, vs, T, oT, ts, ⟨he, hc, hdx, hd, h1⟩, ⟨hnT, hTe⟩, hT, hdT, h3⟩ := F
  have h3s : 3 < ts.size := (Array.getElem?_eq_some_iff.mp h3).1
  have oth : ∀ b, b ≠ T -> (s.heap.update T (Obj.mapFields (·.setIfInBounds 3 ((none : Option Addr).elim Value.none fun f => rawInt f)))).get? b = s.heap.get? b := fun b z => Heap.get?_update_other _ _ (Ne.symm z)
  have rec_ne : ∀ b o, s.heap.get? b = some o -> (∀ ws, o.data ≠ .fields ws) -> b ≠ T := by
    intro b o q hnf z
    subst z
    obtain rfl : oT = o := Option.some.inj (hT.symm.trans q)
    exact hnf ts hdT
  unfold setFlight
  refine wpAny_bind (wpAny_field he hd h1 ?_)
  have t1 : (Value.ref T != Value.none) = true := by simp
  rw [if_pos t1]
  refine wpAny_setField hT hdT h3s (h _ ⟨fun b o q => (oth b fun z => by subst z; rw [hnT] at q; cases q).trans (hst b o q), hnw, hl.of_keeps fun b o q hnf => ⟨o, (oth b (rec_ne b o q hnf)).trans q, rfl⟩, ?_⟩ fun b o q hnf => ⟨o.slots, (oth b (rec_ne b o q hnf)).trans q⟩)
  exact ⟨oe, vs, T, _, _, ⟨(oth e (Ne.symm hTe)).trans he, hc, hdx, hd, h1⟩, ⟨hnT, hTe⟩, Heap.get?_update_self _ hT (Obj.isFreed_of_fields (Obj.data_mapFields hdT _)), Obj.data_mapFields hdT _, by simp [h3s]⟩
theorem fly_tail {fl : Value} {h : Heap} (F : Fly B (env :: outer) e C dx fl h) : Fly B outer e C dx fl h := ⟨F.st, F.nw, F.ff.2.2, F.tr⟩
theorem leave_first {oe : Obj} {vs : Array Value}
    (hfr : A.frames = some (env :: outer)) (hl : s.heap.FunFrames B (env :: outer)) (hf : env.frame = some L)
    (he : s.heap.get? e = some oe) (hc : oe.cls = .ref C) (hdx : oe.dict = some dx) (hd : oe.data = .fields vs) (h1 : vs[1]? = some .none) (hst : B.StaysIn s.heap) (hnw : B.get? e = none)
    (h : ∀ h', Fly B outer e C dx .none h' -> s.heap.UpToSlots h' -> Q () { s with heap := h' }) : wpAny M A (leaving env (.ref e)) Q E s := by
  unfold leaving
  refine wpAny_bind (note_first hfr hl hf he hc hdx hd h1 hst hnw fun h1 N => ?_)
  exact flight_off (s := { s with heap := h1 }) ⟨N.st, hnw, N.ff, N.tr⟩ fun h2 F2 u2 => h h2 (fly_tail F2) (N.up.trans u2)
theorem leave_next (hfr : A.frames = some (env :: outer)) (hf : env.frame = some L) (F : Fly B (env :: outer) e C dx .none s.heap)
    (h : ∀ h', Fly B outer e C dx .none h' -> s.heap.UpToSlots h' -> Q () { s with heap := h' }) : wpAny M A (leaving env (.ref e)) Q E s := by
  unfold leaving
  refine wpAny_bind (note_next hfr hf F fun h1 N => ?_)
  exact flight_off (s := { s with heap := h1 }) ⟨N.st, F.nw, N.ff, N.tr⟩ fun h2 F2 u2 => h h2 (fly_tail F2) (N.up.trans u2)
theorem land_next (hfr : A.frames = some (env :: outer)) (hf : env.frame = some L) (F : Fly B (env :: outer) e C dx .none s.heap)
    (h : ∀ h', Fly B (env :: outer) e C dx .none h' -> s.heap.UpToSlots h' -> Q () { s with heap := h' }) : wpAny M A (noteFrame (.ref e) env) (fun _ s' => wpAny M A (setFlight (.ref e) none) Q E s') E s := by
  refine note_next hfr hf F fun h1 N => ?_
  exact flight_off (s := { s with heap := h1 }) ⟨N.st, F.nw, N.ff, N.tr⟩ fun h2 F2 u2 => h h2 F2 (N.up.trans u2)
end
end LX
end
section
set_option Elab.async false
set_option linter.all false
set_option maxRecDepth 100000
set_option maxHeartbeats 4000000
namespace LX
open PySem PySem.Spec PyProof.Rows
open Sem (wp)
section
variable {prog : Program} {w : World} {A : Around} {E : Value -> Shared -> Prop} {h : Heap} {g : Array GenState} {d : Drawn} {t : Nat} {os : OsState}
variable {nm q : Str} {C N : Addr} {bs bm : List Value} {hdct : Bool} {sn : List Str} {sub : List Value} {ab : Bool} {col : Option Bool} {dd : Option Addr} {k0 k1 k2 k3 k5 : Option Value}
abbrev XC (h : Heap) (nm q : Str) (C N : Addr) (bs bm : List Value) (hdct : Bool) (sn : List Str) (sub : List Value) (ab : Bool) (col : Option Bool) (dd : Option Addr) (k0 k1 k2 k3 k5 : Option Value) : Prop :=
  h.get? C = some (excClassObj nm q C N bs bm hdct sn sub ab col dd k0 k1 k2 k3 k5 "Exception.__new__")
structure Under (bm : List Value) : Prop where
  b1 : bm.contains (.type "Exception") = true
  b2 : bm.contains (.type "BaseException") = true
  b3 : bm.contains (.type "AttributeError") = false
  b4 : bm.contains (.type "NameError") = false
theorem x_check_new {M : Model} {rest : List Value} {Q : Unit -> Shared -> Prop} (U : Under bm) (hC : XC h nm q C N bs bm hdct sn sub ab col dd k0 k1 k2 k3 k5) (hq : Q () ⟨h, g, d, t, os⟩) :
    wpAny M A (checkBuiltinCall "Exception.__new__" ⟨.ref C :: rest, []⟩) Q E ⟨h, g, d, t, os⟩ := by
  have F := PySem.F.excBase_Exception
  have hst := F.noStar
  have hco : (Value.ref C :: bm).contains (.type "Exception") = true := by rw [List.contains_cons, U.b1]; exact Bool.or_true _
  simp only [checkBuiltinCall, F.newKind, F.newSplit, F.newRow]
  repeat (first
    | refine wpAny_loadPart_at hC ?_
    | (refine wpAny_isSubtype_exc hC ?_; rw [hco])
    | refine wpAny_staticBase_exc hC ?_
    | refine wpAny_madeBy_exc hC ?_
    | simp only [bne_self_eq_false, Bool.false_eq_true, if_false]
    | wp_step)
  exact hq
theorem x_new {R : Result -> Shared -> Prop} {rest : List Value} (U : Under bm) (hC : XC h nm q C N bs bm hdct sn sub ab col dd k0 k1 k2 k3 k5) (hr : rest.length <= sizeLine)
    (hq : R (.ok (.ret (.ref (h.objs.size + 1)))) ⟨(h.push { cls := .type "tuple", data := .seq rest.toArray }).push { cls := .ref C, data := .fields #[.ref h.objs.size, .none, .none, .none, .bool false, .none] }, g, d, t, os⟩) :
    codeAny (model prog w) A (.builtin "Exception.__new__" ⟨.ref C :: rest, []⟩) R ⟨h, g, d, t, os⟩ := by
  have F := PySem.F.excBase_Exception
  have hen := F.ends
  have c1 : (Value.ref C :: bm).contains (.type "Exception") = true := by rw [List.contains_cons, U.b1]; exact Bool.or_true _
  have c3 : (Value.ref C :: bm).contains (.type "AttributeError") = false := by rw [List.contains_cons, U.b3]; rfl
  have c4 : (Value.ref C :: bm).contains (.type "NameError") = false := by rw [List.contains_cons, U.b4]; rfl
  have hrest := hr
  refine codeAny_builtinAt F.entry ?_
  unfold Builtin.«BaseException.__new__»
  refine PySem.wpAt_bind ?_
  show PySem.wpAt _ _ _ (stack >>= _) _ _ _
  refine PySem.wpAt_bind (PySem.wpAt_stack fun p below => PySem.wpAt_of_wpAny ?_)
  wp_walk
  refine PySem.wpAt_of_wpAny ?_
  rw [F.owner]
  repeat (first
    | with_reducible refine wpAny_madeHere_exc F.canon hC ?_
    | with_reducible refine wpAny_loadPart_at hC ?_
    | (with_reducible refine wpAny_isSubtype_exc hC ?_; first | rw [c1] | rw [c3] | rw [c4])
    | wp_step)
  show R _ _
  rw [Heap.size_push]
  exact hq
theorem x_type_call {rest : List Value} {fI : Addr} {oI : Obj} {Q : Fin -> Shared -> Prop} (U : Under bm)
    (hC : XC h nm q C N bs bm hdct sn sub ab col dd k0 k1 k2 k3 k5) (hi : PySem.W.Looks (model prog w) h (typeLookup (.ref C) "__init__") (some (.ref fI))) (hfI : h.get? fI = some oI) (hfc : oI.cls = .type "function") (hr : rest.length <= sizeLine)
    (hq : ∀ h' e, h.objs.size <= e -> Heap.MadeExcOf h h' e (.ref C) rest -> wpAny (model prog w) A (call (.ref fI) (.ref e :: rest)) (fun r s' => r = .none /\ Q (.done (.ret (.ref e))) s') E ⟨h', g, d, t, os⟩) :
    wpAny (model prog w) A (Builtin.«type.__call__» ⟨.ref C :: rest, []⟩) Q E ⟨h, g, d, t, os⟩ := by
  have F := PySem.F.excBase_Exception
  repeat (first | with_reducible refine wpAny_loadPart_at hC ?_ | with_reducible refine wpAny_madeBy_exc hC ?_ | wp_step)
  refine codeAny_call_builtin_code (Code.quiet_builtin _ F.quiet) (x_check_new U hC ?_)
  refine x_new U hC hr ?_
  show wpAny _ _ _ _ _ _
  generalize hT : ({ cls := .type "tuple", data := .seq rest.toArray } : Obj) = oT
  generalize hO : ({ cls := .ref C, data := .fields #[.ref h.objs.size, .none, .none, .none, .bool false, .none] } : Obj) = oE
  have kp : ∀ b o, h.get? b = some o -> ((h.push oT).push oE).get? b = some o := fun b o z => Heap.get?_push_of_some _ (Heap.get?_push_of_some _ z)
  have hC1 : XC ((h.push oT).push oE) nm q C N bs bm hdct sn sub ab col dd k0 k1 k2 k3 k5 := kp _ _ hC
  have hf1 := kp _ _ hfI
  have hi1 := hi.keeps kp
  have hE : ((h.push oT).push oE).get? (h.objs.size + 1) = some oE := by subst hT hO; heap_get
  have cE : oE.cls = .ref C := by subst hO; rfl
  have cC : (Value.ref C :: bm).contains (.ref C) = true := by simp
  unfold isInstance
  repeat (first | (with_reducible refine wpAny_loadPart_at hE ?_; rw [cE]) | (with_reducible refine wpAny_isSubtype_exc hC1 ?_; rw [cC]) | wp_step)
  show wpAny _ _ (typeLookup (.ref C) _) _ _ _
  refine hi1.at ?_
  refine wpAny_holding (wpAny_bind ?_)
  unfold bindSpecial
  refine wpAny_bind (wpAny_typeOf (T := "function") ⟨_, hf1, hfc⟩ ?_)
  rw [if_pos (by decide)]
  refine wpAny_pure (wpAny_bind (wpAny_mono (hq _ (h.objs.size + 1) (Nat.le_succ _) ⟨kp, Heap.get?_none_of_le (Nat.le_succ _), h.objs.size, by rw [hE, <- hO], Heap.get?_none_of_le (Nat.le_refl _), ?_⟩) (fun r s' z => ?_) fun _ _ x => x))
  · rw [hT]
    exact Heap.get?_push_of_some _ (Heap.get?_push_at rfl (by subst hT; rfl))
  · obtain ⟨rfl, z⟩ := z
    wp_walk
    exact z
theorem x_call {rest : List Value} {fI : Addr} {oI : Obj} {Q : Value -> Shared -> Prop} (U : Under bm)
    (hC : XC h nm q C N bs bm hdct sn sub ab col dd k0 k1 k2 k3 k5) (hi : PySem.W.Looks (model prog w) h (typeLookup (.ref C) "__init__") (some (.ref fI))) (hfI : h.get? fI = some oI) (hfc : oI.cls = .type "function") (hr : rest.length <= sizeLine)
    (hq : ∀ h' e, h.objs.size <= e -> Heap.MadeExcOf h h' e (.ref C) rest -> wpAny (model prog w) (A.under (.builtin "type.__call__" ⟨.ref C :: rest, []⟩)) (call (.ref fI) (.ref e :: rest)) (fun r s' => r = .none /\ Q (.ref e) s') E ⟨h', g, d, t, os⟩) :
    wpAny (model prog w) A (call (.ref C) rest) Q E ⟨h, g, d, t, os⟩ := by
  have f1 := tc_lookup
  have f2 := tc_bind (.ref C)
  have hT : (⟨h, g, d, t, os⟩ : Shared).TypeIs (.ref C) "type" := ⟨_, hC, rfl⟩
  refine wpAny_call (codeAny_of_tree ?_)
  show wpAny _ _ (callAny (.ref C) _) _ _ _
  repeat (any_goals (first
    | assumption
    | with_reducible refine wpAny_loadPart_at hC ?_
    | wp_step))
  refine ⟨rfl, ?_⟩
  refine codeAny_call_builtin_at (Code.quiet_builtin _ (by decide +kernel)) entry_typeCall (wpAny_check_type_call_sub hC ?_)
  exact x_type_call U hC hi hfI hfc hr fun h' e hs hm => hq h' e hs hm
end
section
variable {M : Model} {A : Around} {E : Value -> Shared -> Prop} {env : Env}
variable {nm q : Str} {C N : Addr} {bs bm : List Value} {hdct : Bool} {sn : List Str} {sub : List Value} {ab : Bool} {col : Option Bool} {dd : Option Addr} {k0 k1 k2 k3 k5 : Option Value}
theorem x_raise {s : Shared} {x : Sem Value} {Q : Flow -> Shared -> Prop} (U : Under bm) (hh : A.handled = none)
    (h : wpAny M A x (fun v s1 => ∃ (e t : Addr) (dx : Option Addr) (sl : Array (Option Value)), v = .ref e /\ XC s1.heap nm q C N bs bm hdct sn sub ab col dd k0 k1 k2 k3 k5 /\
      s1.heap.get? e = some { cls := .ref C, dict := dx, data := .fields #[.ref t, .none, .none, .none, .bool false, .none], slots := sl } /\ E (.ref e) s1) E s) :
    wpAny M A (raiseStmt env (some x) none) Q E s := by
  have cB : (Value.ref C :: bm).contains (.type "BaseException") = true := by rw [List.contains_cons, U.b2]; exact Bool.or_true _
  unfold raiseStmt
  refine wpAny_bind (wpAny_mono h (fun v s1 z => ?_) fun _ _ x => x)
  obtain ⟨e, t, dx, sl, rfl, hC, he, hE⟩ := z
  obtain ⟨hp, g, d, tk, os⟩ := s1
  repeat (first
    | with_reducible refine wpAny_loadPart_at he ?_
    | with_reducible refine wpAny_loadPart_at hC ?_
    | (with_reducible refine wpAny_isSubtype_exc hC ?_; rw [cB])
    | wp_step)
  exact wpAny_raiseNew_none hh hE
theorem x_matches {h : Heap} {g : Array GenState} {d : Drawn} {t : Nat} {os : OsState} {e S NS : Addr} {oe : Obj} {nmS qS : Str} {bsS bmS : List Value} {hdS : Bool} {snS : List Str} {subS : List Value} {abS : Bool} {colS : Option Bool} {ddS : Option Addr} {j0 j1 j2 j3 j5 : Option Value} {Q : Bool -> Shared -> Prop}
    (US : Under bmS) (hC : XC h nm q C N bs bm hdct sn sub ab col dd k0 k1 k2 k3 k5) (hS : XC h nmS qS S NS bsS bmS hdS snS subS abS colS ddS j0 j1 j2 j3 j5) (hcs : (Value.ref C :: bm).contains (.ref S) = true)
    (he : h.get? e = some oe) (hcls : oe.cls = .ref C) (hq : Q true ⟨h, g, d, t, os⟩) : wpAny M A (excMatches (.ref e) (.ref S)) Q E ⟨h, g, d, t, os⟩ := by
  have cB : (Value.ref S :: bmS).contains (.type "BaseException") = true := by rw [List.contains_cons, US.b2]; exact Bool.or_true _
  have f := tc_notTuple
  unfold excMatches
  repeat (first
    | (with_reducible refine wpAny_loadPart_at he ?_; rw [hcls])
    | with_reducible refine wpAny_loadPart_at hS ?_
    | (with_reducible refine wpAny_isSubtype_exc hS ?_; rw [cB])
    | (with_reducible refine wpAny_isSubtype_exc hC ?_; rw [hcs])
    | wp_step)
  exact hq
end
end LX
end
section
set_option Elab.async false
set_option linter.all false
set_option maxRecDepth 100000
set_option maxHeartbeats 4000000
namespace LX
open PySem PySem.Spec PyProof.Rows Builtin Builtin.ObjectAttr
open PySem.W (Frag InstAt Looks clsIn findIn takerIn findObj handedIn looks_findIn looks_clsIn looks_mroIn mroIn)
def xmro : List Value -> Bool
  | [.type a, .type b, .type c] => a == "Exception" && b == "BaseException" && c == "object"
  | .ref _ :: r => xmro r
  | _ => false
theorem xmro_passes (self : Value) : ∀ {l : List Value}, xmro l = true -> refuseLoop self "__setattr__" l = pure ()
  | [.type a, .type b, .type c], e => by
    simp only [xmro, Bool.and_eq_true, beq_iff_eq] at e
    obtain ⟨⟨rfl, rfl⟩, rfl⟩ := e
    exact PySem.F.store_Exception.passes self
  | .ref c :: r, e => by rw [refuseLoop_ref]; exact xmro_passes self (l := r) e
theorem xmro_has : ∀ {l : List Value}, xmro l = true -> l.contains (.type "object") = true
  | [.type a, .type b, .type c], e => by
    simp only [xmro, Bool.and_eq_true, beq_iff_eq] at e
    obtain ⟨⟨rfl, rfl⟩, rfl⟩ := e
    decide
  | .ref c :: r, e => by rw [List.contains_cons, xmro_has (l := r) e, Bool.or_true]
theorem xmro_ne {l : List Value} (e : xmro l = true) : l.isEmpty = false := by
  cases l with
  | nil => cases e
  | cons _ _ => rfl
section
variable {prog : Program} {w : World} {A : Around} {E : Value -> Shared -> Prop} {s : Shared} {K : Frag} {x C : Addr} {ox : Obj} {od : Option Obj} {name : Str} {v : Value} {cd : ClassData}
theorem x_osa {tk : Tok} {R : Result -> Shared -> Prop} (X : K.In s.heap) (I : InstAt s.heap x ox C od) (hc : clsIn K C = some cd) (hp : xmro cd.mro = true) (ht : findIn K (.ref C) name = some none)
    (h : wpAny (model prog w) A.in1 (storeInOwnDict (.ref x) (.ref C) (.str name tk) name v false)
      (fun fin s' => match fin with | .done f => R (.ok f) s' | .again c' => c'.quiet = true /\ codeAny (model prog w) A c' R s') (fun e s' => R (.error e) s') s) :
    codeAny (model prog w) A (.call (.builtin "object.__setattr__") ⟨[.ref x, .str name tk, v], []⟩) R s := by
  have SF := PySem.F.store_object
  have ne := xmro_ne hp
  have sub : Looks (model prog w) s.heap (isInstance (.ref x) (.type "object")) true := I.type.andThen (looks_mroIn X (by unfold mroIn; rw [hc, Option.bind_some, if_neg (by rw [ne]; decide), xmro_has hp]))
  refine codeAny_call_builtin SF.slot.plain SF.entry (@PySem.W.check_slot (model prog w) _ _ s "object.__setattr__" "object" "__setattr__" (.ref x) [.str name tk, v] [] _ SF.kind SF.split sub (SF.args (.ref x) (.str name tk) v) ?_)
  have hm : Looks (model prog w) s.heap (mroOf (.ref C)) cd.mro := (looks_clsIn X hc).andThen .now
  rw [PySem.W.osa_eq, refuse_eq]
  refine wpAny_bind (wpAny_bind (I.type.here (wpAny_bind (hm.here ?_))))
  rw [xmro_passes _ hp]
  refine wpAny_pure (wpAny_bind (I.type.here (wpAny_bind ((looks_findIn X ht).here (wpAny_bind ?_)))))
  exact wpAny_pure h
theorem x_set0 {vs : Array Value} {sl : Array (Option Value)} {Q : Unit -> Shared -> Prop} (X : K.In s.heap) (hx : s.heap.get? x = some ⟨.ref C, none, .fields vs, sl⟩) (hc : clsIn K C = some cd) (hp : xmro cd.mro = true) (hd : cd.hasDict = true)
    (hs : findIn K (.ref C) "__setattr__" = some (some (.builtin "object.__setattr__"))) (ht : findIn K (.ref C) name = some none)
    (h : ∀ h' tk, h'.get? x = some ⟨.ref C, some s.heap.objs.size, .fields vs, sl⟩ -> h'.Ns1 s.heap.objs.size (fun y => if y = name then some v else none) -> (∀ b o, b ≠ x -> s.heap.get? b = some o -> h'.get? b = some o) -> Q () { s with heap := h', toks := tk }) :
    wpAny (model prog w) A (setAttr (.ref x) name v) Q E s := by
  have I : InstAt s.heap x ⟨.ref C, none, .fields vs, sl⟩ C none := ⟨hx, rfl, rfl, trivial⟩
  refine PySem.W.set_plain X I hs (x_osa (s := { s with toks := s.toks + 1 }) X I hc hp ht ?_)
  have L := looks_clsIn (M := model prog w) X hc
  unfold storeInOwnDict
  have e1 : ownStreamTells (.ref x) (.ref C) = pure () := rfl
  rw [e1]
  refine wpAny_bind (wpAny_pure ?_)
  rw [if_neg (show ¬ ((Value.ref C == Value.type "module") = true) by simp)]
  refine wpAny_bind ?_
  show wpAny _ _ (instanceDict x true) _ _ _
  unfold instanceDict
  refine wpAny_bind (wpAny_loadPart (s := { s with toks := s.toks + 1 }) hx ?_)
  dsimp only
  refine wpAny_bind (L.here (s := { s with toks := s.toks + 1 }) ?_)
  rw [hd]
  simp only [Bool.not_true, Bool.false_eq_true, if_false, typeHasDict, Bool.false_or]
  have hx1 : (s.heap.push { cls := .type "dict", data := .dict #[] }).get? x = some ⟨.ref C, none, .fields vs, sl⟩ := Heap.get?_push_of_some _ hx
  have hxs : x ≠ s.heap.objs.size := Nat.ne_of_lt (Heap.lt_size hx)
  refine wpAny_bind (wpAny_alloc (wpAny_bind (wpAny_update hx1 ?_)))
  refine wpAny_pure (a := some s.heap.objs.size) ?_
  have hgd : ((s.heap.push { cls := .type "dict", data := .dict #[] }).update x fun o => { o with dict := some s.heap.objs.size }).get? s.heap.objs.size = some { cls := .type "dict", data := .dict #[] } :=
    (Heap.get?_update_ne _ _ _ _ hxs.symm).trans (Heap.get?_push_at rfl rfl)
  have hnd : ((s.heap.push { cls := .type "dict", data := .dict #[] }).update x fun o => { o with dict := some s.heap.objs.size }).Ns s.heap.objs.size (fun _ => none) :=
    ⟨_, #[], _, hgd, rfl, fun e he => absurd he (by simp), fun _ => rfl⟩
  show wpAny _ _ (storeInDict s.heap.objs.size (.str name s.toks) name v) _ _ _
  unfold storeInDict newKeyGuard
  refine wpAny_bind (wpAny_pure (wpAny_bind (wpAny_nsSet1 (Heap.Ns1.of_empty hnd) fun h' hn' hs' => ?_)))
  obtain ⟨oD, esD, epD, hoD, hdD, hcD⟩ := hn'.count (Within.cons name v Within.nil)
  refine wpAny_bind (wpAny_lookBehind hoD (by rw [hdD]; exact pastItsLine_dict (Nat.le_trans hcD (by rw [List.length_cons, List.length_nil, sizeLine_eq]; omega))) ?_)
  refine wpAny_pure (h h' _ ?_ hn' fun b o hb q => ?_)
  · exact (hs'.2 x hxs).trans (Heap.get?_update_self _ hx1 rfl)
  · exact (hs'.2 b (Nat.ne_of_lt (Heap.lt_size q))).trans ((Heap.get?_update_ne _ _ _ _ hb).trans (Heap.get?_push_of_some _ q))
theorem x_set1 {vs : Array Value} {sl : Array (Option Value)} {dx : Addr} {mA : Str -> Option Value} {ns : List Str} {Q : Unit -> Shared -> Prop} (X : K.In s.heap) (hx : s.heap.get? x = some ⟨.ref C, some dx, .fields vs, sl⟩) (hn : s.heap.Ns1 dx mA)
    (hw : PySem.Within mA ns) (hsz : ns.length <= 1000) (hc : clsIn K C = some cd) (hp : xmro cd.mro = true) (hd : cd.hasDict = true)
    (hs : findIn K (.ref C) "__setattr__" = some (some (.builtin "object.__setattr__"))) (ht : findIn K (.ref C) name = some none)
    (h : ∀ h' tk, h'.Ns1 dx (fun y => if y = name then some v else mA y) -> Heap.SameBut dx s.heap h' -> Q () { s with heap := h', toks := tk }) :
    wpAny (model prog w) A (setAttr (.ref x) name v) Q E s := by
  obtain ⟨od, eod⟩ : ∃ od, s.heap.get? dx = some od := let ⟨o, _, _, e, _⟩ := hn; ⟨o, e⟩
  have I : InstAt s.heap x ⟨.ref C, some dx, .fields vs, sl⟩ C (some od) := ⟨hx, rfl, rfl, eod⟩
  refine PySem.W.set_plain X I hs (x_osa (s := { s with toks := s.toks + 1 }) X I hc hp ht ?_)
  have L := looks_clsIn (M := model prog w) X hc
  unfold storeInOwnDict
  have e1 : ownStreamTells (.ref x) (.ref C) = pure () := rfl
  rw [e1]
  refine wpAny_bind (wpAny_pure ?_)
  rw [if_neg (show ¬ ((Value.ref C == Value.type "module") = true) by simp)]
  refine wpAny_bind ?_
  show wpAny _ _ (instanceDict x true) _ _ _
  unfold instanceDict
  refine wpAny_bind (wpAny_loadPart (s := { s with toks := s.toks + 1 }) hx ?_)
  dsimp only
  refine wpAny_bind (L.here (s := { s with toks := s.toks + 1 }) ?_)
  rw [hd]
  refine wpAny_pure (a := some dx) ?_
  show wpAny _ _ (storeInDict dx (.str name s.toks) name v) _ _ _
  unfold storeInDict newKeyGuard
  refine wpAny_bind (wpAny_pure (wpAny_bind (wpAny_nsSet1 (s := { s with toks := s.toks + 1 }) hn fun h' hn' hs' => ?_)))
  obtain ⟨oD, esD, epD, hoD, hdD, hcD⟩ := hn'.count (Within.cons name v hw)
  refine wpAny_bind (wpAny_lookBehind hoD (by rw [hdD]; exact pastItsLine_dict (Nat.le_trans hcD (by rw [List.length_cons, sizeLine_eq]; omega))) ?_)
  exact wpAny_pure (h h' _ hn' hs')
theorem bx_kind : builtinKind "BaseException.__getattribute__" = some .slot := by decide +kernel
theorem bx_split : splitId "BaseException.__getattribute__" = some ("BaseException", "__getattribute__") := by decide +kernel
theorem bx_plain : plainId "BaseException.__getattribute__" = true := by decide +kernel
theorem bx_bind (self : Value) : bindSpecial (.builtin "BaseException.__getattribute__") self = pure (.builtin "BaseException.__getattribute__", [self]) := PySem.F.excAttr_ValueError.ga.bind self
theorem x_get {expr : Bool} {Q : Value -> Shared -> Prop} (X : K.In s.heap) (I : InstAt s.heap x ox C od) (hga : findIn K (.ref C) "__getattribute__" = some (some (.builtin "BaseException.__getattribute__")))
    (hk : findIn K (.ref C) "__getattr__" = some none) (hsub : mroIn K C (.type "BaseException") = some true) (hf : findObj K C od name = some (.value v)) (hh : handedIn v = true) (h : Q v { s with toks := s.toks + 1 }) :
    wpAny (model prog w) A (getAttr (.ref x) name expr) Q E s := by
  obtain ⟨hp, g, d, t, os⟩ := s
  have L0 := I.type (M := model prog w)
  have L1 := looks_findIn (M := model prog w) X hga
  have L2 := looks_findIn (M := model prog w) X hk
  have L3 := PySem.W.looks_find (M := model prog w) X I hf
  have L4 : Looks (model prog w) hp (isInstance (.ref x) (.type "BaseException")) true := L0.andThen (looks_mroIn X hsub)
  unfold getAttr getAttrBy
  refine wpAny_bind (wpAny_mkText (wpAny_holding (wpAny_bind (L0.at (wpAny_bind (L1.at ?_))))))
  show wpAny _ _ (getAttrByItsOwn _ _ _ _ _ _) _ _ _
  unfold getAttrByItsOwn hookBefore
  refine wpAny_bind (L2.at ?_)
  refine wpAny_bind (wpAny_attempt (wpAny_holding ?_))
  have e0 : (expr && onTheHeap (Value.builtin "BaseException.__getattribute__")) = false := by cases expr <;> rfl
  unfold callGetattribute
  rw [e0]
  show wpAny _ _ (boundAndCalled _ _ _) _ _ _
  unfold boundAndCalled
  rw [bx_bind]
  refine wpAny_bind (wpAny_pure (wpAny_call ?_))
  refine codeAny_call_builtin bx_plain PySem.F.entry_bexc_ga (@PySem.W.check_slot (model prog w) _ _ ⟨hp, g, d, t + 1, os⟩ "BaseException.__getattribute__" "BaseException" "__getattribute__" (.ref x) [.str name t] [] _ bx_kind bx_split L4 (PySem.F.args_bexc_ga _ _) ?_)
  unfold Builtin.«object.__getattribute__»
  refine wpAny_bind (wpAny_pure (wpAny_bind (wpAny_pure (wpAny_bind (L0.at (wpAny_bind (L3.at ?_)))))))
  refine wpAny_pure ?_
  show wpAny _ _ (handedOut v) _ _ _
  rw [PySem.W.handedOut_of hh]
  exact wpAny_pure h
end
end LX
end
section
set_option Elab.async false
set_option linter.all false
set_option maxRecDepth 100000
namespace L2
open PySem PySem.Spec PyProof.Rows
abbrev Key := Sum Int Str
def keyIs : Key -> Value -> Bool
  | .inl k, v => Value.isInt k v
  | .inr x, v => Value.isStrOf x v
def keyH (w : World) : Key -> Int
  | .inl k => hashInt k
  | .inr x => hashStr w x
theorem keyIs_shape : ∀ {k : Key} {v : Value}, keyIs k v = true -> (∃ i t, k = Sum.inl i /\ v = Value.int i t) \/ (∃ x t, k = Sum.inr x /\ v = Value.str x t)
  | .inl i, v, h => by
    obtain ⟨t, e⟩ := Value.isInt_shape (k := i) (v := v) h
    exact .inl ⟨i, t, rfl, e⟩
  | .inr x, v, h => by
    obtain ⟨t, e⟩ := Value.isStrOf_shape (x := x) (v := v) h
    exact .inr ⟨x, t, rfl, e⟩
theorem keyIs_int (i : Int) (t : Tok) : keyIs (.inl i) (.int i t) = true := by simp [keyIs, Value.isInt]
theorem keyIs_str (x : Str) (t : Tok) : keyIs (.inr x) (.str x t) = true := by simp [keyIs, Value.isStrOf]
theorem key_ll (a b : Int) : decide ((Sum.inl a : Key) = Sum.inl b) = (a == b) := by
  by_cases e : a = b
  · subst e; simp
  · have h : ¬ (Sum.inl a : Key) = Sum.inl b := fun q => e (Sum.inl.inj q)
    rw [decide_eq_false h]
    exact (beq_eq_false_iff_ne.mpr e).symm
theorem key_rr (a b : Str) : decide ((Sum.inr a : Key) = Sum.inr b) = decide (a = b) := by
  by_cases e : a = b
  · subst e; simp
  · have h : ¬ (Sum.inr a : Key) = Sum.inr b := fun q => e (Sum.inr.inj q)
    rw [decide_eq_false h, decide_eq_false e]
theorem key_lr (a : Int) (b : Str) : decide ((Sum.inl a : Key) = Sum.inr b) = false := decide_eq_false (fun q => nomatch q)
theorem key_rl (a : Str) (b : Int) : decide ((Sum.inr a : Key) = Sum.inl b) = false := decide_eq_false (fun q => nomatch q)
def mixKind (prog : Program) (w : World) : PySem.KeyKind prog w Key where
  is := keyIs
  hash := keyH w
  inj := fun v a b ha hb => by
    rcases keyIs_shape ha with ⟨i, t, rfl, rfl⟩ | ⟨x, t, rfl, rfl⟩
    · rcases keyIs_shape hb with ⟨j, u, rfl, e⟩ | ⟨y, u, rfl, e⟩
      · injection e with e1 _; rw [e1]
      · exact nomatch e
    · rcases keyIs_shape hb with ⟨j, u, rfl, e⟩ | ⟨y, u, rfl, e⟩
      · exact nomatch e
      · injection e with e1 _; rw [e1]
  byValue := fun k v h => by
    rcases keyIs_shape h with ⟨i, t, rfl, rfl⟩ | ⟨x, t, rfl, rfl⟩ <;> rfl
  pyHash := fun hv h => by
    rcases keyIs_shape hv with ⟨i, t, rfl, rfl⟩ | ⟨x, t, rfl, rfl⟩
    · exact wpAny_pyHash_int h
    · exact wpAny_pyHash_str h
  eqBool := fun hu hv h => by
    rcases keyIs_shape hu with ⟨i, t, rfl, rfl⟩ | ⟨x, t, rfl, rfl⟩
    · rcases keyIs_shape hv with ⟨j, u, rfl, rfl⟩ | ⟨y, u, rfl, rfl⟩
      · rw [key_ll] at h; exact wpAny_eqBool_int h
      · rw [key_lr] at h; exact SeqAt.EqAt.int_str i t y u _ _ _ _ h
    · rcases keyIs_shape hv with ⟨j, u, rfl, rfl⟩ | ⟨y, u, rfl, rfl⟩
      · rw [key_rl] at h; exact SeqAt.EqAt.str_int x t j u _ _ _ _ h
      · rw [key_rr] at h; exact wpAny_eqBool_str h
  «strs» := fun k x t v h => by
    rcases keyIs_shape h with ⟨i, u, rfl, e⟩ | ⟨y, u, rfl, e⟩
    · exact nomatch e
    · injection e with e1 _
      subst e1
      cases v <;> rfl
theorem mixKind_int (prog : Program) (w : World) (i : Int) (t : Tok) : (mixKind prog w).is (.inl i) (.int i t) = true := keyIs_int i t
theorem mixKind_str (prog : Program) (w : World) (x : Str) (t : Tok) : (mixKind prog w).is (.inr x) (.str x t) = true := keyIs_str x t
end L2
namespace L2
open PySem PySem.Spec PyProof.Rows
inductive V where
  | non | bl (b : Bool) | int (i : Int) | str (x : Str) | byt (b : Array UInt8) | flt (b : UInt64) | ref (a : Addr) | ty (n : String)
  deriving DecidableEq
def RelV : V -> Value -> Prop
  | .non, u => u = Value.none
  | .bl b, u => u = Value.bool b
  | .int i, u => ∃ t, u = Value.int i t
  | .str x, u => ∃ t, u = Value.str x t
  | .byt b, u => ∃ t, u = Value.bytes b t
  | .flt b, u => ∃ t, u = Value.float b t
  | .ref a, u => u = Value.ref a
  | .ty n, u => u = Value.type n
abbrev Vals : List V -> List Value -> Prop := Paired RelV
theorem Vals.length {xs : List V} {us : List Value} (r : Vals xs us) : xs.length = us.length := Paired.length r
theorem Vals.get : ∀ {xs : List V} {us : List Value} {i : Nat} {x : V}, Vals xs us -> xs[i]? = some x -> ∃ u, us[i]? = some u /\ RelV x u
  | _, _, _, _, .nil, e => by simp at e
  | _, _, 0, _, .cons r _, e => by simp at e; subst e; exact ⟨_, rfl, r⟩
  | _, _, i + 1, x, .cons _ t, e => by
    obtain ⟨u, h1, h2⟩ := Vals.get (i := i) (x := x) t (by simpa using e)
    exact ⟨u, by simpa using h1, h2⟩
theorem Vals.append : ∀ {xs ys : List V} {us ws : List Value}, Vals xs us -> Vals ys ws -> Vals (xs ++ ys) (us ++ ws)
  | _, _, _, _, .nil, s => s
  | _, _, _, _, .cons r t, s => .cons r (Vals.append t s)
theorem Vals.take : ∀ {xs : List V} {us : List Value} (n : Nat), Vals xs us -> Vals (xs.take n) (us.take n)
  | _, _, 0, _ => .nil
  | _, _, _ + 1, .nil => .nil
  | _, _, n + 1, .cons r t => .cons r (Vals.take n t)
theorem Vals.drop : ∀ {xs : List V} {us : List Value} (n : Nat), Vals xs us -> Vals (xs.drop n) (us.drop n)
  | _, _, 0, r => r
  | _, _, _ + 1, .nil => .nil
  | _, _, n + 1, .cons _ t => Vals.drop n t
def RelO : Option V -> Option Value -> Prop
  | some v, some u => RelV v u
  | none, none => True
  | _, _ => False
def KV {κ : Type} : List (κ × V) -> List (κ × Value) -> Prop := Paired fun (p : κ × V) (q : κ × Value) => p.1 = q.1 /\ RelV p.2 q.2
def kV : Key -> V
  | .inl i => .int i
  | .inr x => .str x
inductive HO where
  | lst (xs : List V)
  | tup (xs : List V)
  | dK (kvs : List (Key × V)) | dT (kvs : List (List Key × V))
  | set (S : Int -> Bool) (n : Nat)
  | ins (C dx : Addr) (fs : List (Str × V))
  | own (x : Addr)
  | xd (fs : List (Str × V))
  | met (f x : Addr)
  | rng (lo hi : Int)
  | frz (o : Obj) (u : HO)
  | tbl (ps : Array Value)
  | ext (φ : Heap -> Prop)
abbrev Hp := Addr -> Option HO
def upd (H : Hp) (a : Addr) (o : HO) : Hp := fun b => if b = a then some o else H b
theorem upd_same {H : Hp} {a : Addr} {o : HO} : upd H a o a = some o := by unfold upd; rw [if_pos rfl]
theorem upd_ne {H : Hp} {a b : Addr} {o : HO} (h : b ≠ a) : upd H a o b = H b := by unfold upd; rw [if_neg h]
theorem upd_upd {H : Hp} {a : Addr} {o u : HO} : upd (upd H a o) a u = upd H a u := by
  funext b; unfold upd; split <;> rfl
theorem ne_of {H : Hp} {a b : Addr} {o u : HO} (h : H a = some o) (h' : H b = some u) (d : o ≠ u) : a ≠ b := by
  intro e; subst e; rw [h] at h'; exact d (Option.some.inj h')
theorem ne_of_none {H : Hp} {a b : Addr} {o : HO} (h : H a = some o) (h' : H b = none) : a ≠ b := by
  intro e; subst e; rw [h] at h'; cases h'
section
variable (P : Program) (w : World)
def ObjOk (H : Hp) (h : Heap) (a : Addr) : HO -> Prop
  | .lst xs => xs.length <= sizeLine /\ ∃ (its : List Value) (n : Nat), Vals xs its /\ h.get? a = some { cls := .type "list", data := .seq its.toArray n }
  | .tup xs => xs.length <= sizeLine /\ ∃ its : List Value, Vals xs its /\ IsTup h a its.toArray
  | .dK kvs => kvs.length <= sizeLine /\ (a == sysModules) = false /\ ∃ vs, KV kvs vs /\ h.DictOf (mixKind P w) a vs
  | .dT kvs => kvs.length <= sizeLine /\ (a == sysModules) = false /\ ∃ xs : List (List Key × Addr × Value),
      Paired (fun (p : List Key × V) (q : List Key × Addr × Value) => p.1 = q.1 /\ H q.2.1 = some (.tup (p.1.map kV)) /\ RelV p.2 q.2.2) kvs xs /\
      ∃ o es ep, h.get? a = some o /\ o.ExactDict /\ o.data = .dict es ep /\ es.toList = xs.map (entryOfKey (tupleKind (mixKind P w))) /\ (xs.map (·.1)).Nodup
  | .set S n => h.SetOf (intKind P w) a S n
  | .ins C dx fs => H dx = some (.own a) /\ fs.length <= 1000 /\ dx ≠ a /\ h.get? a = some (PySem.W.instObj C dx) /\
      ∃ mA, h.Ns1 dx mA /\ (∀ f, RelO (fs.lookup f) (mA f)) /\ PySem.Within mA (fs.map (·.1))
  | .own _ => ∃ o, h.get? a = some o
  | .xd fs => ∃ mA, h.Ns1 a mA /\ ∀ f, RelO (fs.lookup f) (mA f)
  | .rng lo hi => ∃ t u v, h.get? a = some { cls := .type "range", data := .fields #[.int lo t, .int hi u, .int 1 v] }
  | .frz o u => h.get? a = some o /\ ObjOk H h a u
  | .tbl ps => h.get? a = some { cls := .none, data := .fields ps }
  | .met f x => h.get? a = some (PySem.W.methodObj (.ref f) (.ref x))
  | .ext φ => φ h /\ (∃ o, h.get? a = some o) /\ ∀ h1 h2 : Heap, φ h1 -> (∀ o, h1.get? a = some o -> h2.get? a = some o) -> φ h2
def HOk (H : Hp) (h : Heap) : Prop := ∀ a o, H a = some o -> ObjOk P w H h a o
end
section
variable {P : Program} {w : World} {H H' : Hp} {h h' : Heap} {a : Addr} {o : HO}
theorem ObjOk.lt (x : ObjOk P w H h a o) : a < h.objs.size := by
  cases o with
  | lst xs => obtain ⟨_, _, _, _, e⟩ := x; exact Heap.lt_size e
  | tup xs => obtain ⟨_, _, _, p⟩ := x; exact p.lt
  | dK kvs => obtain ⟨_, _, _, _, o, _, _, e, _⟩ := x; exact Heap.lt_size e
  | dT kvs => obtain ⟨_, _, _, _, o, _, _, e, _⟩ := x; exact Heap.lt_size e
  | set S n => obtain ⟨o, _, _, _, e, _⟩ := x; exact Heap.lt_size e
  | ins C dx fs => obtain ⟨_, _, _, e, _⟩ := x; exact Heap.lt_size e
  | own y => obtain ⟨_, e⟩ := x; exact Heap.lt_size e
  | xd fs => obtain ⟨_, ⟨_, _, _, e, _⟩, _⟩ := x; exact Heap.lt_size e
  | rng lo hi => obtain ⟨_, _, _, e⟩ := x; exact Heap.lt_size e
  | frz ob u => obtain ⟨e, _⟩ := x; exact Heap.lt_size e
  | tbl ps => exact Heap.lt_size (show h.get? a = some _ from x)
  | met f y => exact Heap.lt_size (show h.get? a = some _ from x)
  | ext φ => obtain ⟨_, ⟨_, e⟩, _⟩ := x; exact Heap.lt_size e
theorem Paired.mapP {α β : Type} {F G : α -> β -> Prop} : ∀ {l₁ : List α} {l₂ : List β}, Paired F l₁ l₂ -> (∀ a b, F a b -> G a b) -> Paired G l₁ l₂
  | _, _, .nil, _ => .nil
  | _, _, .cons r t, f => .cons (f _ _ r) (Paired.mapP t f)
theorem ObjOk.stay (x : ObjOk P w H h a o) (k : ∀ b u, (b = a \/ H b = some (.own a)) -> h.get? b = some u -> h'.get? b = some u)
    (ho : ∀ b, H b = some (.own a) -> H' b = some (.own a)) (ht : ∀ b xs, H b = some (.tup xs) -> H' b = some (.tup xs)) : ObjOk P w H' h' a o := by
  induction o with
  | lst xs => obtain ⟨z, its, n, r, e⟩ := x; exact ⟨z, its, n, r, k _ _ (.inl rfl) e⟩
  | tup xs => obtain ⟨z, its, r, ob, e, c⟩ := x; exact ⟨z, its, r, ob, k _ _ (.inl rfl) e, c⟩
  | dK kvs => obtain ⟨z, y, vs, r, ob, es, ep, e, c⟩ := x; exact ⟨z, y, vs, r, ob, es, ep, k _ _ (.inl rfl) e, c⟩
  | dT kvs =>
    obtain ⟨z, y, xs, r, ob, es, ep, e, c⟩ := x
    exact ⟨z, y, xs, Paired.mapP r fun p q z => ⟨z.1, ht _ _ z.2.1, z.2.2⟩, ob, es, ep, k _ _ (.inl rfl) e, c⟩
  | set S n => obtain ⟨ob, es, ep, t, e, c⟩ := x; exact ⟨ob, es, ep, t, k _ _ (.inl rfl) e, c⟩
  | ins C dx fs =>
    obtain ⟨d, z, ne, e, mA, ⟨od, es, ep, e2, c⟩, r⟩ := x
    exact ⟨ho _ d, z, ne, k _ _ (.inl rfl) e, mA, ⟨od, es, ep, k _ _ (.inr d) e2, c⟩, r⟩
  | own y => obtain ⟨ob, e⟩ := x; exact ⟨ob, k _ _ (.inl rfl) e⟩
  | xd fs => obtain ⟨mA, ⟨od, es, ep, e, c⟩, r⟩ := x; exact ⟨mA, ⟨od, es, ep, k _ _ (.inl rfl) e, c⟩, r⟩
  | rng lo hi => obtain ⟨t, u, v, e⟩ := x; exact ⟨t, u, v, k _ _ (.inl rfl) e⟩
  | frz ob u ih => obtain ⟨e, q⟩ := x; exact ⟨k _ _ (.inl rfl) e, ih q⟩
  | tbl ps =>
    have e : h.get? a = some { cls := .none, data := .fields ps } := x
    show h'.get? a = some { cls := .none, data := .fields ps }
    exact k a _ (.inl rfl) e
  | met f y =>
    have e : h.get? a = some (PySem.W.methodObj (.ref f) (.ref y)) := x
    show h'.get? a = some (PySem.W.methodObj (.ref f) (.ref y))
    exact k a _ (.inl rfl) e
  | ext φ => obtain ⟨p, ⟨o, e⟩, st⟩ := x; exact ⟨st _ _ p fun o q => k _ _ (.inl rfl) q, ⟨o, k _ _ (.inl rfl) e⟩, st⟩
theorem HOk.lt (x : HOk P w H h) (e : H a = some o) : a < h.objs.size := (x a o e).lt
theorem HOk.fresh (x : HOk P w H h) (e : h.objs.size <= a) : H a = none := by
  cases q : H a with
  | none => rfl
  | some u => exact absurd (Nat.lt_of_lt_of_le (x.lt q) e) (Nat.lt_irrefl _)
theorem HOk.kept (x : HOk P w H h) (k : ∀ b u, h.get? b = some u -> h'.get? b = some u) : HOk P w H h' := fun a o e =>
  (x a o e).stay (fun b u _ q => k b u q) (fun _ q => q) fun _ _ q => q
theorem HOk.laid (x : HOk P w H h) (k : ∀ b u, h.get? b = some u -> h'.get? b = some u) (hp : h.objs.size <= a) (new : ObjOk P w (upd H a o) h' a o) : HOk P w (upd H a o) h' := fun b u e => by
  have hn := x.fresh hp
  by_cases hb : b = a
  · subst hb; rw [upd_same] at e; cases e; exact new
  · rw [upd_ne hb] at e
    exact (x b u e).stay (fun c v _ q => k c v q) (fun c q => by rw [upd_ne (ne_of_none q hn)]; exact q) fun c xs q => by rw [upd_ne (ne_of_none q hn)]; exact q
end
def Rd (H : Hp) (a : Addr) (u : HO) : Prop := H a = some u \/ ∃ o, H a = some (.frz o u)
theorem Rd.ok {P : Program} {w : World} {H : Hp} {h : Heap} {a : Addr} {u : HO} (r : Rd H a u) (x : HOk P w H h) : ObjOk P w H h a u := by
  rcases r with r | ⟨o, r⟩
  · exact x a u r
  · obtain ⟨_, q⟩ := x a _ r
    exact q
def Mut : Option HO -> Prop
  | some (.lst _) => True
  | some (.dK _) => True
  | some (.dT _) => True
  | some (.set _ _) => True
  | some (.ins _ _ _) => True
  | some (.ext _) => True
  | _ => False
section
variable {P : Program} {w : World} {H : Hp} {h h' : Heap} {x e : Addr} {o' : HO}
theorem HOk.write (ok : HOk P w H h) (mu : Mut (H x)) (he : e = x \/ H e = some (.own x)) (k : ∀ b u, b ≠ e -> h.get? b = some u -> h'.get? b = some u) (heo : ∃ u, h'.get? e = some u)
    (new : ObjOk P w (upd H x o') h' x o') : HOk P w (upd H x o') h' := fun b u q => by
  have nown : ∀ c y, H c = some (.own y) -> c ≠ x := fun c y r z => by subst z; rw [r] at mu; exact mu
  have ntup : ∀ c xs, H c = some (.tup xs) -> c ≠ x := fun c xs r z => by subst z; rw [r] at mu; exact mu
  by_cases hb : b = x
  · subst hb; rw [upd_same] at q; cases q; exact new
  · rw [upd_ne hb] at q
    by_cases hbe : b = e
    · have q' : H b = some (.own x) := by
        rcases he with z | z
        · exact absurd (hbe.trans z) hb
        · rw [hbe]; exact z
      rw [q] at q'; cases q'
      obtain ⟨v, hv⟩ := heo
      exact ⟨v, by rw [hbe]; exact hv⟩
    · refine (ok b u q).stay (fun c v hc r => k c v ?_ r) (fun c r => by rw [upd_ne (nown c b r)]; exact r) fun c xs r => by rw [upd_ne (ntup c xs r)]; exact r
      rcases hc with rfl | hc
      · exact hbe
      · rintro rfl
        rcases he with z | z
        · exact nown c b hc z
        · rw [hc] at z; cases z; exact hb rfl
end
structure Un (fs ex : List Addr) (H H' : Hp) (h h' : Heap) : Prop where
  keep : ∀ b o, h.get? b = some o -> H b = none -> b ∉ fs -> b ∉ ex -> h'.get? b = some o
  slot : ∀ b o, h.get? b = some o -> H b = none -> b ∈ fs -> b ∉ ex -> ∃ sl, h'.get? b = some { o with slots := sl }
  free : ∀ b o, h.get? b = some o -> H b = none -> b ∉ ex -> H' b = none
  there : ∀ b o, h.get? b = some o -> b ∉ ex -> ∃ o', h'.get? b = some o'
  tups : ∀ b xs, H b = some (.tup xs) -> H' b = some (.tup xs)
  frzs : ∀ b o u, H b = some (.frz o u) -> H' b = some (.frz o u)
  tbls : ∀ b ps, H b = some (.tbl ps) -> ∃ more, H' b = some (.tbl (ps ++ more))
section
variable {fs fs' ex ex' : List Addr} {H H1 H2 : Hp} {h h1 h2 h' : Heap} {a x e : Addr} {o : HO}
theorem Un.any (u : Un fs ex H H1 h h1) {b : Addr} {ob : Obj} (q : h.get? b = some ob) (n : H b = none) (hx : b ∉ ex) : ∃ sl, h1.get? b = some { ob with slots := sl } := by
  by_cases hb : b ∈ fs
  · exact u.slot b ob q n hb hx
  · exact ⟨ob.slots, u.keep b ob q n hb hx⟩
theorem Un.kept (k : ∀ b u, h.get? b = some u -> h'.get? b = some u) : Un fs ex H H h h' :=
  ⟨fun b ob q _ _ _ => k b ob q, fun b ob q _ _ _ => ⟨ob.slots, k b ob q⟩, fun _ _ _ n _ => n, fun b ob q _ => ⟨ob, k b ob q⟩, fun _ _ q => q, fun _ _ _ q => q, fun _ ps q => ⟨#[], by rw [q]; simp⟩⟩
theorem Un.refl : Un fs ex H H h h := Un.kept fun _ _ q => q
theorem Un.laid (k : ∀ b u, h.get? b = some u -> h'.get? b = some u) (hp : h.objs.size <= a) (hn : H a = none) : Un fs ex H (upd H a o) h h' where
  keep := fun b u q _ _ _ => k b u q
  slot := fun b u q _ _ _ => ⟨u.slots, k b u q⟩
  free := fun b u q n _ => by rw [upd_ne (Nat.ne_of_lt (Nat.lt_of_lt_of_le (Heap.lt_size q) hp))]; exact n
  there := fun b u q _ => ⟨u, k b u q⟩
  tups := fun b xs q => by rw [upd_ne (ne_of_none q hn)]; exact q
  frzs := fun b u xs q => by rw [upd_ne (ne_of_none q hn)]; exact q
  tbls := fun b ps q => ⟨#[], by rw [upd_ne (ne_of_none q hn), q]; simp⟩
theorem Un.write (mu : Mut (H x)) (he : e = x \/ H e = some (.own x)) (k : ∀ b u, b ≠ e -> h.get? b = some u -> h'.get? b = some u) (heo : ∃ u, h'.get? e = some u) : Un fs ex H (upd H x o) h h' := by
  have hx : ∀ b, H b = none -> b ≠ x := fun b n z => by subst z; rw [n] at mu; exact mu
  have hb : ∀ b, H b = none -> b ≠ e := fun b n z => by
    subst z
    rcases he with r | r
    · exact hx b n r
    · rw [n] at r; cases r
  have hm : ∀ b u, H b = some u -> ¬ Mut (some u) -> b ≠ x := fun b u q nm z => by subst z; rw [q] at mu; exact nm mu
  refine ⟨fun b u q n _ _ => k b u (hb b n) q, fun b u q n _ _ => ⟨u.slots, k b u (hb b n) q⟩, fun b u q n _ => by rw [upd_ne (hx b n)]; exact n, fun b u q _ => ?_,
    fun b xs q => by rw [upd_ne (hm b _ q fun z => z)]; exact q, fun b u xs q => by rw [upd_ne (hm b _ q fun z => z)]; exact q, fun b ps q => ⟨#[], by rw [upd_ne (hm b _ q fun z => z), q]; simp⟩⟩
  by_cases hbe : b = e
  · subst hbe; exact heo
  · exact ⟨u, k b u hbe q⟩
end
def trk (h : Heap) (H : Hp) : List Addr := (List.range h.objs.size).filter fun a => (H a).isSome
def hidT (h : Heap) (H : Hp) : Heap := PySem.W.hideAll h (trk h H)
theorem hidT_size (h : Heap) (H : Hp) : (hidT h H).objs.size = h.objs.size := PySem.W.hideAll_size _ _
theorem hidT_get {h : Heap} {H : Hp} {b : Addr} {o : Obj} (e : h.get? b = some o) (n : H b = none) : (hidT h H).get? b = some o :=
  PySem.W.hideAll_get _ e fun hm => by
    have q : (H b).isSome = true := (List.mem_filter.mp hm).2
    rw [n] at q; simp at q
theorem of_hidT {h : Heap} {H : Hp} {b : Addr} {o : Obj} (e : (hidT h H).get? b = some o) : h.get? b = some o /\ H b = none := by
  have e' : h.get? b = some o := PySem.W.of_hideAll (trk h H) e
  refine ⟨e', ?_⟩
  cases q : H b with
  | none => rfl
  | some x =>
    have hm : b ∈ trk h H := List.mem_filter.mpr ⟨List.mem_range.mpr (Heap.lt_size e'), by simp [q]⟩
    have z : (hidT h H).get? b = none := PySem.W.hideAll_none (trk h H) hm
    rw [z] at e; cases e
end L2
namespace L2
open PySem PySem.Spec PyProof.Rows
structure Mod (K : PySem.W.Frag) (mg : Str -> Option Value) (base : Heap) : Prop where
  kin : K.In base
  glob : base.Ns mainGlobals mg
  blt : ∃ mb, base.Ns builtinsNs mb /\ ∀ x : Str, x ≠ "__name__" -> mb x = bootBuiltins x
  nolimit : base.NoLimit
structure Cx where
  prog : Program
  w : World
  K : PySem.W.Frag
  mg : Str -> Option Value
  base : Heap
  A : Around
  N : List Str
  s_0 : Shared
  H_0 : Hp
  env : Env
  outer : List Env
  stack : List Env
  ex : List Addr
  fn : Str -> Bool
  calm : Bool
  pn : List (Addr × Obj)
  xe : Value -> Shared -> Prop
def frs (l : List Env) : List Addr := l.filterMap (·.frame)
abbrev Cx.fs (X : Cx) : List Addr := frs X.outer
def Vis (sc : Scope) (x : Str) : Prop := sc.names.lookup x = some .local \/ sc.names.lookup x = some .cell \/ sc.names.lookup x = some .free
def Loc (sc : Scope) (x : Str) : Prop := sc.names.lookup x = some .local \/ sc.names.lookup x = some .cell
def Look (env : Env) (h : Heap) (m : Str -> Option Value) (x : Str) (u : Value) : Prop :=
  (env.kindOf x = some .local /\ m x = some u) \/ ((env.kindOf x = some .cell \/ env.kindOf x = some .free) /\ ∃ c, env.cells.lookup x = some c /\ h.IsCell c (some u))
structure Cx.Ok (X : Cx) : Prop where
  mod : Mod X.K X.mg X.base
  kind : X.env.scope.kind = .function
  glob : X.env.globals = mainGlobals
  blt : X.env.builtins = builtinsNs
  above : X.s_0.heap.objs.size <= X.env.locals
  inj : ∀ x y c, X.env.cells.lookup x = some c -> X.env.cells.lookup y = some c -> x = y
  has : ∀ x, (X.env.kindOf x = some .cell \/ X.env.kindOf x = some .free) -> ∃ c, X.env.cells.lookup x = some c
  cab : ∀ x c, X.fn x = true -> X.env.cells.lookup x = some c -> X.s_0.heap.objs.size <= c
  hd : X.calm = true -> X.A.handled = none
  frames : X.A.frames = some X.stack
  stk : X.stack = X.outer \/ (X.stack = X.env :: X.outer /\ X.env.frame = some X.env.locals)
  exf : ∀ b ∈ X.ex, b ≠ X.env.locals /\ ∀ x c, X.env.cells.lookup x = some c -> c ≠ b
  bs : ∀ b o, X.base.get? b = some o -> X.s_0.heap.get? b = some o /\ X.H_0 b = none
  bsz : X.base.objs.size <= X.s_0.heap.objs.size
  noex : ∀ b o, X.base.get? b = some o -> b ∉ X.ex
  exfs : ∀ b ∈ X.ex, b ∉ X.fs
  funs : X.s_0.heap.FunFrames X.base X.outer
  frf : ∀ b ∈ X.fs, X.H_0 b = none
structure Inv (X : Cx) (pins : List (Addr × Obj)) (σ : List (Option V)) (H : Hp) (s : Shared) : Prop where
  ok : X.Ok
  os : s.os = X.s_0.os
  bare : AllBare s.gens
  base : Un X.fs X.ex X.H_0 H X.s_0.heap s.heap
  loc : ∃ m, s.heap.Ns X.env.locals m /\ ∀ (i : Nat) (x : Str) (v : V), X.N[i]? = some x -> σ[i]? = some (some v) -> Vis X.env.scope x -> ∃ u, RelV v u /\ Look X.env s.heap m x u
  cell : ∀ x c, X.env.cells.lookup x = some c -> ∃ v, s.heap.IsCell c v
  free : H X.env.locals = none
  freeC : ∀ x c, X.env.cells.lookup x = some c -> H c = none
  pin : ∀ p ∈ X.pn ++ pins, s.heap.get? p.1 = some p.2 /\ H p.1 = none /\ p.1 ≠ X.env.locals /\ p.1 ∉ X.fs /\ ∀ v, p.2.data ≠ .cell v
  hok : HOk X.prog X.w H s.heap
  len : σ.length = X.N.length
section
variable {X : Cx} {pins : List (Addr × Obj)} {σ : List (Option V)} {H H' : Hp} {s : Shared} {h' : Heap}
theorem Cx.Ok.nofr (ok : X.Ok) {b : Addr} {o : Obj} (e : X.base.get? b = some o) : b ∉ X.fs := fun hb => by
  have := (ok.funs.mem hb).1
  rw [e] at this; cases this
theorem Inv.bs (I : Inv X pins σ H s) : ∀ b o, X.base.get? b = some o -> s.heap.get? b = some o /\ H b = none := fun b o e =>
  ⟨I.base.keep b o (I.ok.bs b o e).1 (I.ok.bs b o e).2 (I.ok.nofr e) (I.ok.noex b o e), I.base.free b o (I.ok.bs b o e).1 (I.ok.bs b o e).2 (I.ok.noex b o e)⟩
theorem Inv.bk (I : Inv X pins σ H s) : ∀ b o, X.base.get? b = some o -> s.heap.get? b = some o := fun b o e => (I.bs b o e).1
theorem Inv.mod (I : Inv X pins σ H s) : Mod X.K X.mg X.base := I.ok.mod
theorem Inv.kIn (I : Inv X pins σ H s) : X.K.In s.heap := I.ok.mod.kin.keeps I.bk
theorem Inv.lt (I : Inv X pins σ H s) : X.env.locals < s.heap.objs.size := let ⟨_, hn, _⟩ := I.loc; hn.lt
theorem Inv.sz (I : Inv X pins σ H s) : X.s_0.heap.objs.size <= s.heap.objs.size := Nat.le_trans I.ok.above (Nat.le_of_lt I.lt)
theorem Inv.nofs (I : Inv X pins σ H s) {a : Addr} (h : s.heap.objs.size <= a) : a ∉ X.fs := fun hb => by
  obtain ⟨_, o, ho, _⟩ := I.ok.funs.mem hb
  exact absurd (Nat.lt_of_lt_of_le (Heap.lt_size ho) (Nat.le_trans I.sz h)) (Nat.lt_irrefl _)
theorem Inv.cne (I : Inv X pins σ H s) : ∀ x c, X.env.cells.lookup x = some c -> c ≠ X.env.locals := fun x c e z => by
  obtain ⟨v, o, ho, hd⟩ := I.cell x c e
  obtain ⟨m, ⟨o', es, ep, ho', hd', _⟩, _⟩ := I.loc
  rw [z, ho'] at ho; cases ho; rw [hd'] at hd; cases hd
theorem Inv.funs (I : Inv X pins σ H s) : s.heap.FunFrames X.base X.outer := by
  have all : ∀ (l : List Env), (∀ b ∈ frs l, b ∈ X.fs) -> X.s_0.heap.FunFrames X.base l -> s.heap.FunFrames X.base l := by
    intro l
    induction l with
    | nil => intro _ _; trivial
    | cons env r ih =>
      intro hs hl
      obtain ⟨hk, ⟨L, o, hf, hn, ho, hd⟩, hr⟩ := hl
      have hL : L ∈ X.fs := hs L (by unfold frs; rw [List.filterMap_cons, hf]; exact List.mem_cons_self)
      obtain ⟨sl, e⟩ := I.base.slot L o ho (I.ok.frf L hL) hL fun z => I.ok.exfs L z hL
      exact ⟨hk, ⟨L, _, hf, hn, e, hd⟩, ih (fun b hb => hs b (by unfold frs; rw [List.filterMap_cons, hf]; exact List.mem_cons_of_mem _ hb)) hr⟩
  exact all X.outer (fun _ hb => hb) I.ok.funs
theorem Inv.stack (I : Inv X pins σ H s) : s.heap.FunFrames X.base X.stack := by
  rcases I.ok.stk with e | ⟨e, hf⟩
  · rw [e]; exact I.funs
  · rw [e]
    obtain ⟨m, hn, _⟩ := I.loc
    refine .cons (by rw [I.ok.kind]; decide) hf hn ?_ I.funs
    exact Heap.get?_none_of_le (Nat.le_trans I.ok.bsz I.ok.above)
theorem Inv.stkSub (I : Inv X pins σ H s) : ∀ b ∈ frs X.stack, b ∈ X.env.locals :: X.fs := fun b hb => by
  rcases I.ok.stk with e | ⟨e, hf⟩
  · rw [e] at hb; exact List.mem_cons_of_mem _ hb
  · rw [e] at hb
    unfold frs at hb
    rw [List.filterMap_cons, hf] at hb
    exact hb
theorem Inv.stkFree (I : Inv X pins σ H s) : ∀ b ∈ frs X.stack, H b = none := fun b hb => by
  rcases List.mem_cons.mp (I.stkSub b hb) with e | hb
  · rw [e]; exact I.free
  · obtain ⟨_, o, ho, _⟩ := I.ok.funs.mem hb
    exact I.base.free b o ho (I.ok.frf b hb) fun z => I.ok.exfs b z hb
theorem Inv.step {g' : Array GenState} {t' : Nat} {d' : Drawn} {ch : List Addr} (I : Inv X pins σ H s)
    (hch : ∀ b ∈ ch, (b ∈ X.ex \/ X.s_0.heap.objs.size <= b) /\ b ≠ X.env.locals /\ (∀ x c, X.env.cells.lookup x = some c -> c ≠ b) /\ ∀ p ∈ X.pn ++ pins, p.1 ≠ b)
    (keep : ∀ b o, b ≠ X.env.locals -> b ∉ X.fs -> b ∉ ch -> s.heap.get? b = some o -> H b = none -> h'.get? b = some o)
    (slot : ∀ b o, b ≠ X.env.locals -> b ∈ X.fs -> b ∉ ch -> s.heap.get? b = some o -> H b = none -> ∃ sl, h'.get? b = some { o with slots := sl }) (free : ∀ b o, b ∉ ch -> s.heap.get? b = some o -> H b = none -> H' b = none)
    (there : ∀ b o, b ∉ ch -> s.heap.get? b = some o -> ∃ o', h'.get? b = some o')
    (tups : ∀ b xs, H b = some (.tup xs) -> H' b = some (.tup xs)) (frzs : ∀ b o u, H b = some (.frz o u) -> H' b = some (.frz o u)) (tbls : ∀ b ps, H b = some (.tbl ps) -> ∃ more, H' b = some (.tbl (ps ++ more)))
    (ns : ∀ m, s.heap.Ns X.env.locals m -> h'.Ns X.env.locals m) (hok : HOk X.prog X.w H' h') (hg : AllBare g') :
    Inv X pins σ H' { s with heap := h', gens := g', drawn := d', toks := t' } := by
  have neL : ∀ b o, X.s_0.heap.get? b = some o -> b ≠ X.env.locals := fun b o e => Nat.ne_of_lt (Nat.lt_of_lt_of_le (Heap.lt_size e) I.ok.above)
  have neC : ∀ b o, X.s_0.heap.get? b = some o -> b ∉ X.ex -> b ∉ ch := fun b o e hx hb => by
    rcases (hch b hb).1 with z | z
    · exact hx z
    · exact absurd (Nat.lt_of_lt_of_le (Heap.lt_size e) z) (Nat.lt_irrefl _)
  have cellK : ∀ x c, X.env.cells.lookup x = some c -> ∀ v, s.heap.IsCell c v -> h'.IsCell c v := fun x c e v ⟨o, ho, hd⟩ => by
    have nch : c ∉ ch := fun z => (hch c z).2.2.1 x c e rfl
    by_cases hc : c ∈ X.fs
    · obtain ⟨sl, q⟩ := slot c o (I.cne x c e) hc nch ho (I.freeC x c e)
      exact ⟨_, q, hd⟩
    · exact ⟨o, keep c o (I.cne x c e) hc nch ho (I.freeC x c e), hd⟩
  refine ⟨I.ok, I.os, hg, ⟨fun b o e n hb hx => ?_, fun b o e n hb hx => ?_, fun b o e n hx => ?_, fun b o e hx => ?_, fun b xs e => tups b xs (I.base.tups b xs e), fun b o xs e => frzs b o xs (I.base.frzs b o xs e), fun b ps e => ?_⟩, ?_, fun x c e => ?_, ?_, fun x c e => ?_, fun p hp => ?_, hok, I.len⟩
  · exact keep b o (neL b o e) hb (neC b o e hx) (I.base.keep b o e n hb hx) (I.base.free b o e n hx)
  · obtain ⟨sl, e1⟩ := I.base.slot b o e n hb hx
    obtain ⟨sl', e2⟩ := slot b _ (neL b o e) hb (neC b o e hx) e1 (I.base.free b o e n hx)
    exact ⟨sl', e2⟩
  · obtain ⟨o', e1⟩ := I.base.there b o e hx
    exact free b o' (neC b o e hx) e1 (I.base.free b o e n hx)
  · obtain ⟨o', e1⟩ := I.base.there b o e hx
    exact there b o' (neC b o e hx) e1
  · obtain ⟨m1, e1⟩ := I.base.tbls b ps e
    obtain ⟨m2, e2⟩ := tbls b _ e1
    exact ⟨m1 ++ m2, by rw [e2, Array.append_assoc]⟩
  · obtain ⟨m, hn, hl⟩ := I.loc
    refine ⟨m, ns m hn, fun i x v e1 e2 e3 => ?_⟩
    obtain ⟨u, r, l⟩ := hl i x v e1 e2 e3
    refine ⟨u, r, ?_⟩
    rcases l with l | ⟨k, c, e, z⟩
    · exact .inl l
    · exact .inr ⟨k, c, e, cellK x c e _ z⟩
  · obtain ⟨v, z⟩ := I.cell x c e
    exact ⟨v, cellK x c e v z⟩
  · obtain ⟨m, ⟨o, _, _, ho, _⟩, _⟩ := I.loc
    exact free _ o (fun z => (hch _ z).2.1 rfl) ho I.free
  · obtain ⟨v, o, ho, hd⟩ := I.cell x c e
    exact free c o (fun z => (hch c z).2.2.1 x c e rfl) ho (I.freeC x c e)
  · obtain ⟨e, n, ne, nf, d⟩ := I.pin p hp
    have nch : p.1 ∉ ch := fun z => (hch p.1 z).2.2.2 p hp rfl
    exact ⟨keep p.1 p.2 ne nf nch e n, free p.1 p.2 nch e n, ne, nf, d⟩
theorem Inv.un {t' : Nat} (I : Inv X pins σ H s) (u : Un X.fs [] H H' s.heap h') (hok : HOk X.prog X.w H' h') : Inv X pins σ H' { s with heap := h', toks := t' } := by
  obtain ⟨m, ⟨o, es, ep, ho, r⟩, _⟩ := id I.loc
  obtain ⟨sl, hL⟩ := u.any ho I.free (by simp)
  exact I.step (g' := s.gens) (d' := s.drawn) (ch := []) (fun _ z => nomatch z) (fun b o _ hb _ e n => u.keep b o e n hb (by simp)) (fun b o _ hb _ e n => u.slot b o e n hb (by simp)) (fun b o _ e n => u.free b o e n (by simp)) (fun b o _ e => u.there b o e (by simp)) u.tups u.frzs u.tbls (fun m' hm => by
    obtain ⟨o', es', ep', ho', r'⟩ := hm
    rw [ho] at ho'; cases ho'
    exact ⟨_, es', ep', hL, r'⟩) hok I.bare
theorem Inv.call {g' : Array GenState} {t' : Nat} {d' : Drawn} {ch : List Addr} (I : Inv X pins σ H s) (u : Un (frs X.stack) ch H H' s.heap h') (hok : HOk X.prog X.w H' h') (hg : AllBare g')
    (hch : ∀ b ∈ ch, (b ∈ X.ex \/ X.s_0.heap.objs.size <= b) /\ b ≠ X.env.locals /\ (∀ x c, X.env.cells.lookup x = some c -> c ≠ b) /\ ∀ p ∈ X.pn ++ pins, p.1 ≠ b) :
    Inv X pins σ H' { s with heap := h', gens := g', drawn := d', toks := t' } := by
  obtain ⟨m, ⟨o, es, ep, ho, r⟩, _⟩ := id I.loc
  obtain ⟨sl, hL⟩ := u.any ho I.free fun z => (hch _ z).2.1 rfl
  exact I.step (ch := ch) hch (fun b o hL hb hc e n => u.keep b o e n (fun z => (List.mem_cons.mp (I.stkSub b z)).elim hL hb) hc) (fun b o _ _ hc e n => u.any e n hc) (fun b o hc e n => u.free b o e n hc) (fun b o hc e => u.there b o e hc) u.tups u.frzs u.tbls (fun m' hm => by
    obtain ⟨o', es', ep', ho', r'⟩ := hm
    rw [ho] at ho'; cases ho'
    exact ⟨_, es', ep', hL, r'⟩) hok hg
theorem Inv.turned {t' : Nat} {it : Addr} (I : Inv X pins σ H s) (k : ∀ b o, b ≠ it -> s.heap.get? b = some o -> h'.get? b = some o) (hn : H it = none) (hL : it ≠ X.env.locals)
    (h1 : it ∈ X.ex \/ X.s_0.heap.objs.size <= it) (h2 : ∀ x c, X.env.cells.lookup x = some c -> c ≠ it) (h3 : ∀ p ∈ X.pn ++ pins, p.1 ≠ it) : Inv X pins σ H { s with heap := h', toks := t' } := by
  have nit : ∀ b u, H b = some u -> b ≠ it := fun b u e z => by rw [z, hn] at e; cases e
  refine I.step (g' := s.gens) (d' := s.drawn) (ch := [it]) (fun b hb => ?_) (fun b o _ _ hc e _ => k b o (fun z => hc (by simp [z])) e) (fun b o _ _ hc e _ => ⟨o.slots, k b o (fun z => hc (by simp [z])) e⟩) (fun _ _ _ _ n => n)
    (fun b o hc e => ⟨o, k b o (fun z => hc (by simp [z])) e⟩) (fun _ _ e => e) (fun _ _ _ e => e) (fun b ps e => ⟨#[], by rw [e]; simp⟩) (fun m hm => ?_) (fun b u e => ?_) I.bare
  · have e : b = it := by simpa using hb
    subst e
    exact ⟨h1, hL, h2, h3⟩
  · obtain ⟨o, es, ep, ho, r⟩ := hm
    exact ⟨o, es, ep, k _ o (Ne.symm hL) ho, r⟩
  · refine (I.hok b u e).stay (fun c v hc q => k c v ?_ q) (fun _ q => q) fun _ _ q => q
    rcases hc with z | z
    · rw [z]; exact nit b u e
    · exact nit c _ z
theorem Inv.tok (I : Inv X pins σ H s) (t : Nat) : Inv X pins σ H { s with toks := t } := I.un (h' := s.heap) (t' := t) Un.refl I.hok
theorem Inv.kept {t' : Nat} (I : Inv X pins σ H s) (k : ∀ b u, s.heap.get? b = some u -> h'.get? b = some u) : Inv X pins σ H { s with heap := h', toks := t' } := I.un (Un.kept k) (I.hok.kept k)
theorem Inv.laid {a : Addr} {o : HO} {t' : Nat} (I : Inv X pins σ H s) (k : ∀ b u, s.heap.get? b = some u -> h'.get? b = some u) (hp : s.heap.objs.size <= a) (new : ObjOk X.prog X.w (upd H a o) h' a o) :
    Inv X pins σ (upd H a o) { s with heap := h', toks := t' } := I.un (Un.laid k hp (I.hok.fresh hp)) (I.hok.laid k hp new)
theorem Inv.write {x e : Addr} {o : HO} {t' : Nat} (I : Inv X pins σ H s) (mu : Mut (H x)) (he : e = x \/ H e = some (.own x)) (k : ∀ b u, b ≠ e -> s.heap.get? b = some u -> h'.get? b = some u) (heo : ∃ u, h'.get? e = some u)
    (new : ObjOk X.prog X.w (upd H x o) h' x o) : Inv X pins σ (upd H x o) { s with heap := h', toks := t' } := I.un (Un.write mu he k heo) (I.hok.write mu he k heo new)
theorem Inv.weak {σ' : List (Option V)} (I : Inv X pins σ H s) (hl : σ'.length = σ.length) (w : ∀ (i : Nat) v, σ'[i]? = some (some v) -> σ[i]? = some (some v)) : Inv X pins σ' H s :=
  ⟨I.ok, I.os, I.bare, I.base, let ⟨m, hn, hl'⟩ := I.loc; ⟨m, hn, fun i x v e1 e2 e3 => hl' i x v e1 (w i v e2) e3⟩, I.cell, I.free, I.freeC, I.pin, I.hok, hl.trans I.len⟩
theorem Inv.pins_of {pins' : List (Addr × Obj)} (I : Inv X pins σ H s) (h : ∀ p ∈ pins', s.heap.get? p.1 = some p.2 /\ H p.1 = none /\ p.1 ≠ X.env.locals /\ p.1 ∉ X.fs /\ ∀ v, p.2.data ≠ .cell v) : Inv X pins' σ H s :=
  ⟨I.ok, I.os, I.bare, I.base, I.loc, I.cell, I.free, I.freeC, fun p hp => (List.mem_append.mp hp).elim (fun z => I.pin p (List.mem_append_left _ z)) (h p), I.hok, I.len⟩
theorem nodup_ix {N : List Str} (hN : N.Nodup) {i j : Nat} {x : Str} (a : N[i]? = some x) (b : N[j]? = some x) : i = j := by
  obtain ⟨h1, e1⟩ := List.getElem?_eq_some_iff.mp a
  obtain ⟨h2, e2⟩ := List.getElem?_eq_some_iff.mp b
  exact (List.getElem_inj hN).mp (e1.trans e2.symm)
theorem store_ok2 {M : Model} {A : Around} {E : Value -> Shared -> Prop} {i : Nat} {x : Str} {v : V} {u : Value} {Q : Unit -> Shared -> Prop} (I : Inv X pins σ H s) (hN : X.N.Nodup) (hi : X.N[i]? = some x) (hx : Loc X.env.scope x) (r : RelV v u)
    (h : ∀ s', Inv X pins (σ.set i (some v)) H s' -> (∃ a, Heap.SameBut a s.heap s'.heap /\ (a = X.env.locals \/ X.env.cells.lookup x = some a)) -> Q () s') (hf : X.fn x = true \/ X.env.scope.names.lookup x = some .local := by first | exact .inl rfl | exact .inr rfl | assumption) : wpAny M A (storeName X.env x u) Q E s := by
  obtain ⟨m, hn, hl⟩ := id I.loc
  have hcls : (X.env.scope.kind == .class || (X.env.scope.kind == .module && X.env.locals != X.env.globals)) = false := by rw [I.ok.kind]; rfl
  have hiσ : i < σ.length := by rw [I.len]; exact (List.getElem?_eq_some_iff.mp hi).1
  have cne := I.cne
  have tracked : ∀ {a : Addr} {h' : Heap}, (∃ o, s.heap.get? a = some o /\ H a = none) -> Heap.SameBut a s.heap h' -> HOk X.prog X.w H h' := fun {a h'} ha hs b ob e => by
    obtain ⟨_, _, hfree⟩ := ha
    refine (I.hok b ob e).stay (fun c w' hc q => (hs.2 c ?_).trans q) (fun _ q => q) fun _ _ q => q
    rintro rfl
    rcases hc with rfl | hc
    · rw [hfree] at e; cases e
    · rw [hfree] at hc; cases hc
  rcases hx with hk | hk
  · refine wpAny_storeName_local hk hn (fun h' hn' hs => ?_) hcls
    obtain ⟨oL, _, _, hoL, _⟩ := id hn
    refine h _ ⟨I.ok, I.os, I.bare, ⟨fun b o e n hb hx => ?_, fun b o e n hb hx => ?_, I.base.free, fun b o e hx => ?_, I.base.tups, I.base.frzs, I.base.tbls⟩, ⟨_, hn', fun j y v' e1 e2 e3 => ?_⟩, fun y c e => ?_, I.free, I.freeC, fun p hp => ?_, tracked ⟨oL, hoL, I.free⟩ hs, by simpa using I.len⟩ ⟨_, hs, .inl rfl⟩
    · exact (hs.2 b (Nat.ne_of_lt (Nat.lt_of_lt_of_le (Heap.lt_size e) I.ok.above))).trans (I.base.keep b o e n hb hx)
    · obtain ⟨sl, e1⟩ := I.base.slot b o e n hb hx
      exact ⟨sl, (hs.2 b (Nat.ne_of_lt (Nat.lt_of_lt_of_le (Heap.lt_size e) I.ok.above))).trans e1⟩
    · obtain ⟨o', e1⟩ := I.base.there b o e hx
      exact ⟨o', (hs.2 b (Nat.ne_of_lt (Nat.lt_of_lt_of_le (Heap.lt_size e) I.ok.above))).trans e1⟩
    · by_cases hj : j = i
      · subst hj
        rw [hi] at e1; cases e1
        rw [List.getElem?_set_self hiσ] at e2
        cases e2
        exact ⟨u, r, .inl ⟨hk, by simp⟩⟩
      · rw [List.getElem?_set_ne (Ne.symm hj)] at e2
        obtain ⟨u', r', q⟩ := hl j y v' e1 e2 e3
        refine ⟨u', r', ?_⟩
        rcases q with ⟨k, e⟩ | ⟨k, c, e, z⟩
        · refine .inl ⟨k, ?_⟩
          have : y ≠ x := fun e => hj (nodup_ix hN e1 (e ▸ hi))
          simp [this, e]
        · exact .inr ⟨k, c, e, z.sameBut hs (cne y c e)⟩
    · obtain ⟨w', z⟩ := I.cell y c e
      exact ⟨w', z.sameBut hs (cne y c e)⟩
    · obtain ⟨e, n, ne, nf, d⟩ := I.pin p hp
      exact ⟨(hs.2 p.1 ne).trans e, n, ne, nf, d⟩
  · have hfn : X.fn x = true := by
      rcases hf with z | z
      · exact z
      · rw [z] at hk; cases hk
    obtain ⟨c, hc⟩ := I.ok.has x (.inl hk)
    obtain ⟨w', z⟩ := I.cell x c hc
    refine wpAny_storeName_cell I.ok.kind hk hc z (fun h' hc' hs => ?_)
    obtain ⟨oc, hoc, hocd⟩ := id z
    refine h { s with heap := h' } ⟨I.ok, I.os, I.bare, ⟨fun b o e n hb hx => ?_, fun b o e n hb hx => ?_, I.base.free, fun b o e hx => ?_, I.base.tups, I.base.frzs, I.base.tbls⟩, ⟨m, hn.sameBut hs (Ne.symm (cne x c hc)), fun j y v' e1 e2 e3 => ?_⟩, fun y c' e => ?_, I.free, I.freeC, fun p hp => ?_, tracked ⟨oc, hoc, I.freeC x c hc⟩ hs, by simpa using I.len⟩ ⟨c, hs, .inr hc⟩
    · exact (hs.2 b (Nat.ne_of_lt (Nat.lt_of_lt_of_le (Heap.lt_size e) (I.ok.cab x c hfn hc)))).trans (I.base.keep b o e n hb hx)
    · obtain ⟨sl, e1⟩ := I.base.slot b o e n hb hx
      exact ⟨sl, (hs.2 b (Nat.ne_of_lt (Nat.lt_of_lt_of_le (Heap.lt_size e) (I.ok.cab x c hfn hc)))).trans e1⟩
    · obtain ⟨o', e1⟩ := I.base.there b o e hx
      exact ⟨o', (hs.2 b (Nat.ne_of_lt (Nat.lt_of_lt_of_le (Heap.lt_size e) (I.ok.cab x c hfn hc)))).trans e1⟩
    · by_cases hj : j = i
      · subst hj
        rw [hi] at e1; cases e1
        rw [List.getElem?_set_self hiσ] at e2
        cases e2
        exact ⟨u, r, .inr ⟨.inl hk, c, hc, hc'⟩⟩
      · rw [List.getElem?_set_ne (Ne.symm hj)] at e2
        obtain ⟨u', r', q⟩ := hl j y v' e1 e2 e3
        refine ⟨u', r', ?_⟩
        rcases q with q | ⟨k, c', e, z'⟩
        · exact .inl q
        · refine .inr ⟨k, c', e, z'.sameBut hs ?_⟩
          rintro rfl
          exact hj (nodup_ix hN e1 (I.ok.inj _ _ _ e hc ▸ hi))
    · by_cases hcc : c' = c
      · subst hcc; exact ⟨_, hc'⟩
      · obtain ⟨w2, z2⟩ := I.cell y c' e
        exact ⟨w2, z2.sameBut hs hcc⟩
    · obtain ⟨e, n, ne, nf, d⟩ := I.pin p hp
      refine ⟨(hs.2 p.1 ?_).trans e, n, ne, nf, d⟩
      intro q
      rw [q, hoc] at e
      have q' : oc = p.2 := Option.some.inj e
      exact d w' (by rw [<- q']; exact hocd)
theorem store_ok {M : Model} {A : Around} {E : Value -> Shared -> Prop} {i : Nat} {x : Str} {v : V} {u : Value} {Q : Unit -> Shared -> Prop} (I : Inv X pins σ H s) (hN : X.N.Nodup) (hi : X.N[i]? = some x) (hx : Loc X.env.scope x) (r : RelV v u)
    (h : ∀ s', Inv X pins (σ.set i (some v)) H s' -> Q () s') (hf : X.fn x = true \/ X.env.scope.names.lookup x = some .local := by first | exact .inl rfl | exact .inr rfl | assumption) : wpAny M A (storeName X.env x u) Q E s :=
  store_ok2 I hN hi hx r (fun s' I' _ => h s' I') hf
theorem Inv.call' {s' : Shared} {ch : List Addr} (I : Inv X pins σ H s) (ho : s'.os = s.os) (u : Un (frs X.stack) ch H H' s.heap s'.heap) (hok : HOk X.prog X.w H' s'.heap) (hg : AllBare s'.gens)
    (hch : ∀ b ∈ ch, (b ∈ X.ex \/ X.s_0.heap.objs.size <= b) /\ b ≠ X.env.locals /\ (∀ x c, X.env.cells.lookup x = some c -> c ≠ b) /\ ∀ p ∈ X.pn ++ pins, p.1 ≠ b) : Inv X pins σ H' s' := by
  obtain ⟨h', g', d', t', o'⟩ := s'
  have e : o' = s.os := ho
  subst e
  exact I.call (g' := g') (t' := t') (d' := d') u hok hg hch
end
abbrev XK := Value -> Option Addr -> Hp -> Prop
abbrev St := List (Option V)
abbrev VK := V -> Hp -> Prop
abbrev TE := St -> Hp -> VK -> Prop
abbrev TT := St -> Hp -> (Bool -> Hp -> Prop) -> Prop
abbrev TA := St -> Hp -> (List V -> Hp -> Prop) -> Prop
structure Ends where
  nx : St -> Hp -> Prop
  rt : VK
  bk : St -> Hp -> Prop := fun _ _ => False
  ct : St -> Hp -> Prop := fun _ _ => False
abbrev TS := Ends -> St -> Hp -> Prop
def EP (X : Cx) (pins : List (Addr × Obj)) (σ : St) (Q : VK) (u : Value) (s' : Shared) : Prop := ∃ v H', Inv X pins σ H' s' /\ RelV v u /\ Q v H'
def TP (X : Cx) (pins : List (Addr × Obj)) (σ : St) (Q : Bool -> Hp -> Prop) (b : Bool) (s' : Shared) : Prop := ∃ H', Inv X pins σ H' s' /\ Q b H'
def AP (X : Cx) (pins : List (Addr × Obj)) (σ : St) (Q : List V -> Hp -> Prop) (us : List Value) (s' : Shared) : Prop := ∃ vs H', Inv X pins σ H' s' /\ Vals vs us /\ Q vs H'
def SP (X : Cx) (pins : List (Addr × Obj)) (D : Ends) (f : Flow) (s' : Shared) : Prop :=
  match f with
  | .next => ∃ σ' H', Inv X pins σ' H' s' /\ D.nx σ' H'
  | .brk => ∃ σ' H', Inv X pins σ' H' s' /\ D.bk σ' H'
  | .cont => ∃ σ' H', Inv X pins σ' H' s' /\ D.ct σ' H'
  | .ret u => ∃ v σ' H', Inv X pins σ' H' s' /\ RelV v u /\ D.rt v H'
def PE (X : Cx) (e : Expr) (t : TE) : Prop :=
  ∀ (pins : List (Addr × Obj)) (s : Shared) (σ : St) (H : Hp) (Q : VK), Inv X pins σ H s -> t σ H Q -> wpAny (model X.prog X.w) X.A (eval e X.env) (EP X pins σ Q) X.xe s
def PT (X : Cx) (e : Expr) (t : TT) : Prop :=
  ∀ (pins : List (Addr × Obj)) (s : Shared) (σ : St) (H : Hp) (Q : Bool -> Hp -> Prop), Inv X pins σ H s -> t σ H Q -> wpAny (model X.prog X.w) X.A (isTrue e X.env (eval e X.env)) (TP X pins σ Q) X.xe s
def PW (X : Cx) (e : Expr) (t : TT) : Prop :=
  ∀ (whole : Sem Value) (pins : List (Addr × Obj)) (s : Shared) (σ : St) (H : Hp) (Q : Bool -> Hp -> Prop), Inv X pins σ H s -> t σ H Q -> wpAny (model X.prog X.w) X.A (isTrue e X.env whole) (TP X pins σ Q) X.xe s
theorem PW.pt {X : Cx} {e : Expr} {t : TT} (h : PW X e t) : PT X e t := h _
def PA (X : Cx) (es : List Expr) (t : TA) : Prop :=
  ∀ (pos : Pos) (pins : List (Addr × Obj)) (s : Shared) (σ : St) (H : Hp) (Q : List V -> Hp -> Prop), Inv X pins σ H s -> t σ H Q -> wpAny (model X.prog X.w) X.A (spliced (backTo pos (starEach es X.env))) (AP X pins σ Q) X.xe s
def PS (X : Cx) (st : Stmt) (t : TS) : Prop :=
  ∀ (pins : List (Addr × Obj)) (s : Shared) (σ : St) (H : Hp) (D : Ends), Inv X pins σ H s -> t D σ H -> wpAny (model X.prog X.w) X.A (exec st X.env) (SP X pins D) X.xe s
def PSs (X : Cx) (st : List Stmt) (t : TS) : Prop :=
  ∀ (pins : List (Addr × Obj)) (s : Shared) (σ : St) (H : Hp) (D : Ends), Inv X pins σ H s -> t D σ H -> wpAny (model X.prog X.w) X.A (execs st X.env) (SP X pins D) X.xe s
theorem thn {α : Type} {t : Sem α} {Q Q' : α -> Shared -> Prop} {M : Model} {A : Around} {E : Value -> Shared -> Prop} {s : Shared} (h : wpAny M A t Q E s) (hQ : ∀ a s, Q a s -> Q' a s) : wpAny M A t Q' E s := wpAny_mono h hQ fun _ _ x => x
end L2
namespace L2
open PySem PySem.Spec PyProof.Rows
section
variable {X : Cx}
def tVar (i : Nat) : TE := fun σ H Q => ∃ v, σ[i]? = some (some v) /\ Q v H
def tC (v : V) : TE := fun _ H Q => Q v H
theorem pe_var {i : Nat} {x : Str} {pos : Pos} (hN : X.N[i]? = some x) (hv : Vis X.env.scope x) (hd : (x == ("__debug__" : Str)) = false := by decide) (hcd : (x == ("__classdict__" : Str)) = false := by decide) : PE X (.Name x pos) (tVar i) := by
  intro pins s σ H Q I h
  obtain ⟨v, e, h⟩ := h
  obtain ⟨m, hn, hl⟩ := I.loc
  obtain ⟨u, r, l⟩ := hl i x v hN e hv
  have fin : EP X pins σ Q u s := ⟨v, H, I, r, h⟩
  rcases l with ⟨hk, hm⟩ | ⟨hk, c, hc, hcell⟩
  · exact wpAny_Name (wpAny_loadName_local I.ok.kind hk hn hm fin) hd
  · rcases hk with hk | hk
    · exact wpAny_Name (wpAny_loadName_cell I.ok.kind hk hc hcell fin) hd
    · exact wpAny_Name (wpAny_loadName_free I.ok.kind hk hc hcell fin hcd) hd
theorem pe_int {i j pos} : PE X (.Constant (.int i) j pos) (tC (.int i)) := fun _ _ _ H _ I h => wpAny_Constant_int ⟨.int i, H, I.tok _, ⟨_, rfl⟩, h⟩
theorem pe_bl {b j pos} : PE X (.Constant (.bool b) j pos) (tC (.bl b)) := fun _ _ _ H _ I h => Constant_bool ⟨.bl b, H, I, rfl, h⟩
theorem pe_str {x j pos} : PE X (.Constant (.str x) j pos) (tC (.str x)) := fun _ _ _ H _ I h => Calls.Constant_str ⟨.str x, H, I.tok _, ⟨_, rfl⟩, h⟩
def Gl (X : Cx) (x : Str) : Prop := X.env.kindOf x = some .globalImplicit
theorem ld_glob {E : Value -> Shared -> Prop} {pins : List (Addr × Obj)} {s : Shared} {σ : St} {H : Hp} {x : Str} {u : Value} {pos : Pos} {Q : Value -> Shared -> Prop} (I : Inv X pins σ H s) (hg : Gl X x) (hm : X.mg x = some u) (h : Q u s)
    (hd : (x == ("__debug__" : Str)) = false := by decide) : wpAny (model X.prog X.w) X.A (eval (.Name x pos) X.env) Q E s :=
  Calls.Name_function_global I.ok.kind hg (Calls.loadGlobal_global (by rw [I.ok.glob]; exact I.mod.glob.keeps I.bk) hm h) hd
theorem ld_blt {E : Value -> Shared -> Prop} {pins : List (Addr × Obj)} {s : Shared} {σ : St} {H : Hp} {x : Str} {u : Value} {pos : Pos} {Q : Value -> Shared -> Prop} (I : Inv X pins σ H s) (hg : Gl X x) (hm : X.mg x = none) (hv : bootBuiltins x = some u) (h : Q u s)
    (hn : x ≠ "__name__" := by decide) (hd : (x == ("__debug__" : Str)) = false := by decide) : wpAny (model X.prog X.w) X.A (eval (.Name x pos) X.env) Q E s := by
  obtain ⟨mb, h1, h2⟩ := I.mod.blt
  exact Calls.Name_function_global I.ok.kind hg (Calls.loadGlobal_builtin (by rw [I.ok.glob]; exact I.mod.glob.keeps I.bk) hm (by rw [I.ok.blt]; exact h1.keeps I.bk) ((h2 x hn).trans hv) h) hd
theorem pe_glob {x : Str} {v : V} {u : Value} {pos : Pos} (hg : Gl X x) (hm : X.mg x = some u) (r : RelV v u) (hd : (x == ("__debug__" : Str)) = false := by decide) : PE X (.Name x pos) (tC v) :=
  fun _ _ _ H _ I h => ld_glob I hg hm ⟨v, H, I, r, h⟩ hd
variable {a b : Expr} {ta tb : TE} {pos : Pos}
def PC (X : Cx) (op : CmpOp) (a b : Expr) (t : TE) : Prop :=
  ∀ (pins : List (Addr × Obj)) (s : Shared) (σ : St) (H : Hp) (Q : VK), Inv X pins σ H s -> t σ H Q ->
    wpAny (model X.prog X.w) X.A (eval a X.env) (fun v s₁ => wpAny (model X.prog X.w) X.A (eval b X.env) (fun u s₂ => wpAny (model X.prog X.w) X.A (compareOp op v u) (EP X pins σ Q) X.xe s₂) X.xe s₁) X.xe s
theorem nobehind (b : Expr) {op : CmpOp} (h : op ≠ .In) (h2 : op ≠ .NotIn) : behindInMarks op b = false := by
  have e1 : (op == CmpOp.In) = false := by cases op <;> first | rfl | exact absurd rfl h
  have e2 : (op == CmpOp.NotIn) = false := by cases op <;> first | rfl | exact absurd rfl h2
  cases b <;> simp [behindInMarks, e1, e2]
def tIsN (ta : TE) : TE := fun σ H Q => ta σ H fun x H1 => Q (.bl (decide (x = .non))) H1
theorem RelV.none_iff {x : V} {v : Value} (r : RelV x v) : (v == Value.none) = decide (x = .non) := by
  cases x with
  | non => cases r; rfl
  | bl _ => cases r; rfl
  | int _ => obtain ⟨t, rfl⟩ := r; rfl
  | str _ => obtain ⟨t, rfl⟩ := r; rfl
  | byt _ => obtain ⟨t, rfl⟩ := r; rfl
  | flt _ => obtain ⟨t, rfl⟩ := r; rfl
  | ref _ => cases r; rfl
  | ty _ => cases r; rfl
theorem pc_isN {j pos'} (ha : PE X a ta) : PC X .Is a (.Constant .none j pos') (tIsN ta) := by
  intro pins s σ H Q I h
  refine thn (ha pins s σ H _ I h) fun v s1 ⟨x, H1, I1, r1, q1⟩ => ?_
  exact Constant_none (is_none_gen ⟨.bl _, H1, I1, by rw [r1.none_iff]; rfl, q1⟩)
def tB (t : TE) : TT := fun σ H Q => t σ H fun x H1 => ∃ c, x = .bl c /\ Q c H1
theorem pt_cmp {op : CmpOp} {t : TE} (h : PC X op a b t) (h1 : behindInMarks op b = false := by first | exact nobehind _ (by decide) (by decide) | rfl) : PT X (.Compare a [op] [b] pos) (tB t) := by
  intro pins s σ H Q I hw
  refine wpAny_isTrue_Compare1 (thn (h pins s σ H _ I hw) fun v s1 h1 => thn h1 fun u s2 h2 => thn h2 fun c s3 ⟨x, H1, I1, r1, q1⟩ => ?_) h1
  obtain ⟨d, rfl, q⟩ := q1
  cases r1
  exact wpAny_truthy_bool ⟨H1, I1, q⟩
theorem pt_val {e : Expr} {t : TE} (h : PE X e t) (he : ∀ whole, isTrue e X.env whole = (do let v <- whole; standAt e.pos; holding [v] (truthy v)) := by intro _; rfl) : PT X e (tB t) := by
  intro pins s σ H Q I hw
  refine isTrue_plain (thn (h pins s σ H _ I hw) fun v s1 ⟨x, H1, I1, r1, q1⟩ => ?_) (he _)
  obtain ⟨d, rfl, q⟩ := q1
  cases r1
  exact wpAny_truthy_bool ⟨H1, I1, q⟩
variable {tA tB' : TT} {rest : List Expr}
def tAnd (t u : TT) : TT := fun σ H Q => t σ H fun c H1 => if c = true then u σ H1 Q else Q false H1
def tOr (t u : TT) : TT := fun σ H Q => t σ H fun c H1 => if c = true then Q true H1 else u σ H1 Q
def tNot (t : TT) : TT := fun σ H Q => t σ H fun c H1 => Q (!c) H1
theorem pw_and1 (ha : PT X a tA) : PW X (.BoolOp .And [a] pos) tA := by
  intro wh pins s σ H Q I h
  refine isTrue_and (thn (ha pins s σ H Q I h) fun c s1 e => ?_)
  cases c with
  | true => exact isTrue_and_nil e
  | false => exact e
theorem pw_or1 (ha : PT X a tA) : PW X (.BoolOp .Or [a] pos) tA := by
  intro wh pins s σ H Q I h
  refine isTrue_or (thn (ha pins s σ H Q I h) fun c s1 e => ?_)
  cases c with
  | false => exact isTrue_or_nil e
  | true => exact e
theorem pw_and (ha : PT X a tA) (hb : PW X (.BoolOp .And (b :: rest) pos) tB') : PW X (.BoolOp .And (a :: b :: rest) pos) (tAnd tA tB') := by
  intro wh pins s σ H Q I h
  refine isTrue_and (thn (ha pins s σ H _ I h) fun c s1 ⟨H1, I1, q1⟩ => ?_)
  cases c with
  | true => exact hb wh pins s1 σ H1 Q I1 q1
  | false => exact ⟨H1, I1, q1⟩
theorem pw_or (ha : PT X a tA) (hb : PW X (.BoolOp .Or (b :: rest) pos) tB') : PW X (.BoolOp .Or (a :: b :: rest) pos) (tOr tA tB') := by
  intro wh pins s σ H Q I h
  refine isTrue_or (thn (ha pins s σ H _ I h) fun c s1 ⟨H1, I1, q1⟩ => ?_)
  cases c with
  | true => exact ⟨H1, I1, q1⟩
  | false => exact hb wh pins s1 σ H1 Q I1 q1
theorem pt_not (ha : PT X a tA) : PT X (.UnaryOp .Not a pos) (tNot tA) := by
  intro pins s σ H Q I h
  exact isTrue_not (ha pins s σ H (fun c H1 => Q (!c) H1) I h)
def tOrV (ta tb : TE) : TE := fun σ H Q => ta σ H fun x H1 => ∃ c, x = .bl c /\ if c = true then Q (.bl true) H1 else tb σ H1 Q
theorem pe_one {op} {t : TE} (h : PE X a t) : PE X (.BoolOp op [a] pos) t := fun pins s σ H Q I hw => BoolOp_one (h pins s σ H Q I hw)
theorem pe_or (ha : PE X a ta) (hb : PE X (.BoolOp .Or (b :: rest) pos) tb) : PE X (.BoolOp .Or (a :: b :: rest) pos) (tOrV ta tb) := by
  intro pins s σ H Q I h
  refine BoolOp_or (thn (ha pins s σ H _ I h) fun v s1 ⟨x, H1, I1, r1, q1⟩ => ?_)
  obtain ⟨c, rfl, q1⟩ := q1
  cases r1
  refine wpAny_truthy_bool ?_
  cases c with
  | false => exact hb pins s1 σ H1 Q I1 q1
  | true => exact ⟨.bl true, H1, I1, rfl, q1⟩
def tIf (t : TT) (ta tb : TE) : TE := fun σ H Q => t σ H fun c H1 => if c = true then ta σ H1 Q else tb σ H1 Q
theorem pe_ifExp {c : Expr} (hc : PT X c tA) (ha : PE X a ta) (hb : PE X b tb) : PE X (.IfExp c a b pos) (tIf tA ta tb) := by
  intro pins s σ H Q I h
  refine wpAny_IfExp (thn (hc pins s σ H _ I h) fun d s1 ⟨H1, I1, q1⟩ => ?_)
  cases d with
  | true => exact ha pins s1 σ H1 Q I1 q1
  | false => exact hb pins s1 σ H1 Q I1 q1
end
end L2
namespace L2
open PySem PySem.Spec PyProof.Rows
def SqL (K : PySem.W.Frag) (H : Hp) (a : Addr) (xs : List V) : Prop :=
  Rd H a (.lst xs) \/
    ∃ (o : Obj) (its : Array Value) (n : Nat), K.lookup a = some o /\ o.cls = .type "list" /\ o.dict = none /\ o.data = .seq its n /\ its.size <= sizeLine /\ Vals xs its.toList
def SqT (K : PySem.W.Frag) (H : Hp) (a : Addr) (xs : List V) : Prop :=
  Rd H a (.tup xs) \/
    ∃ (o : Obj) (its : Array Value) (n : Nat), K.lookup a = some o /\ o.cls = .type "tuple" /\ o.data = .seq its n /\ its.size <= sizeLine /\ Vals xs its.toList
def absV : Value -> Option V
  | .none => some .non
  | .bool b => some (.bl b)
  | .int i _ => some (.int i)
  | .str x _ => some (.str x)
  | .bytes b _ => some (.byt b)
  | .float b _ => some (.flt b)
  | .ref a => some (.ref a)
  | .type n => some (.ty n)
  | _ => none
theorem RelV.abs {x : V} {u : Value} (r : RelV x u) : absV u = some x := by
  cases x with
  | non => cases r; rfl
  | bl _ => cases r; rfl
  | int _ => obtain ⟨t, rfl⟩ := r; rfl
  | str _ => obtain ⟨t, rfl⟩ := r; rfl
  | byt _ => obtain ⟨t, rfl⟩ := r; rfl
  | flt _ => obtain ⟨t, rfl⟩ := r; rfl
  | ref _ => cases r; rfl
  | ty _ => cases r; rfl
theorem RelV.inj {x y : V} {u : Value} (r : RelV x u) (q : RelV y u) : x = y := Option.some.inj (r.abs.symm.trans q.abs)
theorem Vals.inj : ∀ {xs ys : List V} {us : List Value}, Vals xs us -> Vals ys us -> xs = ys
  | _, _, _, .nil, .nil => rfl
  | _, _, _, .cons r t, .cons r' t' => by rw [r.inj r', Vals.inj t t']
section
variable {X : Cx} {pins : List (Addr × Obj)} {σ : St} {H : Hp} {s : Shared} {a : Addr} {xs ys : List V}
theorem SqL.of {K : PySem.W.Frag} (h : H a = some (.lst xs)) : SqL K H a xs := .inl (.inl h)
theorem SqT.of {K : PySem.W.Frag} (h : H a = some (.tup xs)) : SqT K H a xs := .inl (.inl h)
theorem Inv.list (I : Inv X pins σ H s) (h : SqL X.K H a xs) : ∃ its : List Value, Vals xs its /\ PlainL s.heap a its.toArray /\ xs.length <= sizeLine := by
  rcases h with h | ⟨o, its, n, hk, hc, hd, hs, hz, r⟩
  · obtain ⟨z, its, n, r, e⟩ := h.ok I.hok
    exact ⟨its, r, ⟨_, n, e, rfl, rfl, rfl⟩, z⟩
  · refine ⟨its.toList, r, ⟨o, n, I.kIn a o hk, hc, hd, by simpa using hs⟩, ?_⟩
    have e := r.length
    simp only [Array.length_toList] at e
    omega
theorem Inv.tuple (I : Inv X pins σ H s) (h : SqT X.K H a xs) : ∃ its : List Value, Vals xs its /\ IsTup s.heap a its.toArray /\ xs.length <= sizeLine := by
  rcases h with h | ⟨o, its, n, hk, hc, hs, hz, r⟩
  · obtain ⟨z, its, r, p⟩ := h.ok I.hok
    exact ⟨its, r, p, z⟩
  · refine ⟨its.toList, r, ⟨o, I.kIn a o hk, hc, n, by simpa using hs⟩, ?_⟩
    have e := r.length
    simp only [Array.length_toList] at e
    omega
theorem Inv.list_inj (I : Inv X pins σ H s) (h : SqL X.K H a xs) (h' : SqL X.K H a ys) : xs = ys := by
  obtain ⟨its, r, ⟨o, n, e, _, _, d⟩, _⟩ := I.list h
  obtain ⟨its', r', ⟨o', n', e', _, _, d'⟩, _⟩ := I.list h'
  rw [e] at e'; cases e'
  rw [d] at d'
  injection d' with d1 _
  have : its = its' := by simpa using congrArg Array.toList d1
  subst this
  exact r.inj r'
theorem Inv.tuple_inj (I : Inv X pins σ H s) (h : SqT X.K H a xs) (h' : SqT X.K H a ys) : xs = ys := by
  obtain ⟨its, r, ⟨o, e, _, n, d⟩, _⟩ := I.tuple h
  obtain ⟨its', r', ⟨o', e', _, n', d'⟩, _⟩ := I.tuple h'
  rw [e] at e'; cases e'
  rw [d] at d'
  injection d' with d1 _
  have : its = its' := by simpa using congrArg Array.toList d1
  subst this
  exact r.inj r'
end
abbrev Cx.wish (X : Cx) (E : Value -> Shared -> Prop) : Cx := { X with xe := E }
abbrev Cx.nox (X : Cx) : Cx := X.wish fun _ _ => False
theorem Cx.Ok.wish {X : Cx} (ok : X.Ok) (E : Value -> Shared -> Prop) : (X.wish E).Ok :=
  ⟨ok.mod, ok.kind, ok.glob, ok.blt, ok.above, ok.inj, ok.has, ok.cab, ok.hd, ok.frames, ok.stk, ok.exf, ok.bs, ok.bsz, ok.noex, ok.exfs, ok.funs, ok.frf⟩
theorem Cx.Ok.unwish {X : Cx} {E : Value -> Shared -> Prop} (ok : (X.wish E).Ok) : X.Ok :=
  ⟨ok.mod, ok.kind, ok.glob, ok.blt, ok.above, ok.inj, ok.has, ok.cab, ok.hd, ok.frames, ok.stk, ok.exf, ok.bs, ok.bsz, ok.noex, ok.exfs, ok.funs, ok.frf⟩
section
variable {X : Cx} {pins : List (Addr × Obj)} {σ : St} {H : Hp} {s : Shared} {E : Value -> Shared -> Prop}
theorem Inv.wish (I : Inv X pins σ H s) (E : Value -> Shared -> Prop) : Inv (X.wish E) pins σ H s := ⟨I.ok.wish E, I.os, I.bare, I.base, I.loc, I.cell, I.free, I.freeC, I.pin, I.hok, I.len⟩
theorem Inv.unwish (I : Inv (X.wish E) pins σ H s) : Inv X pins σ H s := ⟨I.ok.unwish, I.os, I.bare, I.base, I.loc, I.cell, I.free, I.freeC, I.pin, I.hok, I.len⟩
theorem SP.unwish {D : Ends} {f : Flow} {s' : Shared} (h : SP (X.wish E) pins D f s') : SP X pins D f s' := by
  cases f with
  | next => obtain ⟨σ', H', I, q⟩ := h; exact ⟨σ', H', I.unwish, q⟩
  | brk => obtain ⟨σ', H', I, q⟩ := h; exact ⟨σ', H', I.unwish, q⟩
  | cont => obtain ⟨σ', H', I, q⟩ := h; exact ⟨σ', H', I.unwish, q⟩
  | ret u => obtain ⟨v, σ', H', I, r, q⟩ := h; exact ⟨v, σ', H', I.unwish, r, q⟩
theorem PSs.nox {st : List Stmt} {t : TS} (h : PSs X.nox st t) : PSs X st t := fun pins s σ H D I hw =>
  wpAny_mono (h pins s σ H D (I.wish _) hw) (fun _ _ q => q.unwish) fun _ _ z => False.elim z
end
section
variable {X : Cx} {st : Stmt} {rest : List Stmt} {t u : TS} {e : Expr} {te : TE} {pos : Pos}
def tNext : TS := fun D σ H => D.nx σ H
def tSeq (t u : TS) : TS := fun D σ H => t { D with nx := u D } σ H
theorem pss_nil : PSs X [] tNext := fun _ _ σ H _ I h => wpAny_execs_nil ⟨σ, H, I, h⟩
theorem pss_cons (h1 : PS X st t) (h2 : PSs X rest u) : PSs X (st :: rest) (tSeq t u) := by
  intro pins s σ H D I h
  refine wpAny_execs_cons (thn (h1 pins s σ H { D with nx := u D } I h) fun f s1 q => ?_)
  cases f with
  | next =>
    obtain ⟨σ', H', I', q⟩ := q
    exact h2 pins s1 σ' H' D I' q
  | ret v => exact q
  | brk => exact q
  | cont => exact q
theorem pss_one (h1 : PS X st t) : PSs X [st] t := by
  intro pins s σ H D I h
  refine wpAny_execs_cons (thn (h1 pins s σ H D I h) fun f s1 q => ?_)
  cases f with
  | next => exact wpAny_execs_nil q
  | ret v => exact q
  | brk => exact q
  | cont => exact q
theorem Inv.quiet {pins : List (Addr × Obj)} {σ : St} {H : Hp} {s : Shared} (I : Inv X pins σ H s) : interactive X.env = false := by simp [interactive, I.ok.kind]
def tDrop (te : TE) : TS := fun D σ H => te σ H fun _ H1 => D.nx σ H1
theorem ps_expr (he : PE X e te) (hs : swapsWith e none pos.line X.env = pure false := by rfl) : PS X (.Expr e pos) (tDrop te) := by
  intro pins s σ H D I h
  exact wpAny_Expr_any (thn (he pins s σ H _ I h) fun v s1 ⟨x, H1, I1, r1, q1⟩ => ⟨σ, H1, I1, q1⟩) I.quiet hs
def tRet (te : TE) : TS := fun D σ H => te σ H D.rt
theorem ps_ret (he : PE X e te) : PS X (.Return (some e) pos) (tRet te) := by
  intro pins s σ H D I h
  exact wpAny_Return_some (thn (he pins s σ H _ I h) fun v s1 ⟨x, H1, I1, r1, q1⟩ => ⟨x, σ, H1, I1, r1, q1⟩)
def tRetN : TS := fun D _ H => D.rt .non H
theorem ps_retN : PS X (.Return none pos) tRetN := fun _ _ σ H _ I h => wpAny_Return_none ⟨.non, σ, H, I, rfl, h⟩
def tIfS (c : TT) (t u : TS) : TS := fun D σ H => c σ H fun b H1 => if b = true then t D σ H1 else u D σ H1
theorem ps_if {c : Expr} {a b : List Stmt} {tc : TT} (hc : PT X c tc) (ha : PSs X a t) (hb : PSs X b u) : PS X (.If c a b pos) (tIfS tc t u) := by
  intro pins s σ H D I h
  refine wpAny_If (thn (hc pins s σ H _ I h) fun d s1 ⟨H1, I1, q1⟩ => ?_)
  cases d with
  | true => exact ha pins s1 σ H1 D I1 q1
  | false => exact hb pins s1 σ H1 D I1 q1
end
abbrev TG := V -> St -> Hp -> (St -> Hp -> Prop) -> Prop
def PG (X : Cx) (target : Expr) (t : TG) : Prop :=
  ∀ (pins : List (Addr × Obj)) (s : Shared) (σ : St) (H : Hp) (v : V) (u : Value) (Q : St -> Hp -> Prop), Inv X pins σ H s -> RelV v u -> t v σ H Q ->
    wpAny (model X.prog X.w) X.A (assign target X.env u) (fun _ s' => ∃ σ' H', Inv X pins σ' H' s' /\ Q σ' H') X.xe s
abbrev TIp := V -> V -> Hp -> VK -> Prop
def PIp (X : Cx) (op : Operator) (t : TIp) : Prop :=
  ∀ (pins : List (Addr × Obj)) (s : Shared) (σ : St) (H : Hp) (x y : V) (v u : Value) (Q : VK), Inv X pins σ H s -> RelV x v -> RelV y u -> t x y H Q ->
    wpAny (model X.prog X.w) X.A (inplaceOp op v u) (EP X pins σ Q) X.xe s
section
variable {X : Cx} {pos : Pos}
def gName (i : Nat) : TG := fun v σ H Q => Q (σ.set i (some v)) H
theorem pg_name {i : Nat} {x : Str} (hN : X.N.Nodup) (hi : X.N[i]? = some x) (hx : Loc X.env.scope x) (hf : X.fn x = true \/ X.env.scope.names.lookup x = some .local := by first | exact .inl rfl | exact .inr rfl | assumption) : PG X (.Name x pos) (gName i) := by
  intro pins s σ H v u Q I r h
  exact wpAny_assign_Name (store_ok I hN hi hx r (fun s' I' => ⟨_, H, I', h⟩) hf)
def tAsg (te : TE) (g : TG) : TS := fun D σ H => te σ H fun x H1 => g x σ H1 D.nx
theorem ps_set {i : Nat} {x : Str} {e : Expr} {te : TE} {pos' : Pos} (hN : X.N.Nodup) (hi : X.N[i]? = some x) (hx : Loc X.env.scope x) (he : PE X e te) (hs : swapsWith e (some (.Name x pos')) pos.line X.env = pure false := by rfl) (hf : X.fn x = true \/ X.env.scope.names.lookup x = some .local := by first | exact .inl rfl | exact .inr rfl | assumption) :
    PS X (.Assign [.Name x pos'] e pos) (tAsg te (gName i)) := by
  intro pins s σ H D I h
  refine wpAny_Assign_Name (thn (he pins s σ H _ I h) fun v s1 ⟨y, H1, I1, r1, q1⟩ => ?_) hs
  exact store_ok I1 hN hi hx r1 (fun s2 I2 => ⟨_, H1, I2, q1⟩) hf
def tAug (i : Nat) (te : TE) (ti : TIp) : TS := fun D σ H => ∃ x, σ[i]? = some (some x) /\ te σ H fun y H1 => ti x y H1 fun z H2 => D.nx (σ.set i (some z)) H2
theorem ps_aug {i : Nat} {x : Str} {e : Expr} {te : TE} {op : Operator} {ti : TIp} {pos' : Pos} (hN : X.N.Nodup) (hi : X.N[i]? = some x) (hx : Loc X.env.scope x) (he : PE X e te) (ho : PIp X op ti) (hf : X.fn x = true \/ X.env.scope.names.lookup x = some .local := by first | exact .inl rfl | exact .inr rfl | assumption) :
    PS X (.AugAssign (.Name x pos') op e pos) (tAug i te ti) := by
  intro pins s σ H D I h
  obtain ⟨v, e1, h⟩ := h
  obtain ⟨m, hn, hl⟩ := I.loc
  have vis : Vis X.env.scope x := by rcases hx with k | k; exact .inl k; exact .inr (.inl k)
  obtain ⟨u, r, l⟩ := hl i x v hi e1 vis
  refine wpAny_AugAssign_Name ?_
  have go : wpAny (model X.prog X.w) X.A (eval e X.env) (fun w s₂ => wpAny (model X.prog X.w) X.A (inplaceOp op u w) (fun r s₃ => wpAny (model X.prog X.w) X.A (storeName X.env x r) (fun _ => SP X pins D .next) X.xe s₃) X.xe s₂) X.xe s := by
    refine thn (he pins s σ H _ I h) fun w s1 ⟨y, H1, I1, r1, q1⟩ => ?_
    refine thn (ho pins s1 σ H1 v y u w _ I1 r r1 q1) fun z s2 ⟨zv, H2, I2, r2, q2⟩ => ?_
    exact store_ok I2 hN hi hx r2 (fun s3 I3 => ⟨_, H2, I3, q2⟩) hf
  rcases l with ⟨hk, hm⟩ | ⟨hk, c, hc, hcell⟩
  · exact wpAny_loadName_local I.ok.kind hk hn hm go
  · rcases hk with hk | hk
    · exact wpAny_loadName_cell I.ok.kind hk hc hcell go
    · rcases hx with k | k
      · have : X.env.scope.names.lookup x = some .free := hk
        rw [k] at this; cases this
      · have : X.env.scope.names.lookup x = some .free := hk
        rw [k] at this; cases this
def ipI (f : Int -> Int -> Int) : TIp := fun x y H Q => ∃ i j, x = .int i /\ y = .int j /\ Q (.int (f i j)) H
theorem ip_add : PIp X .Add (ipI fun i j => i + j) := by
  intro pins s σ H x y v u Q I r1 r2 h
  obtain ⟨i, j, e1, e2, q⟩ := h
  subst e1; subst e2
  obtain ⟨t, rfl⟩ := r1
  obtain ⟨t', rfl⟩ := r2
  exact iadd_int ⟨.int _, H, I.tok _, ⟨_, rfl⟩, q⟩
end
section
variable {X : Cx} {pos : Pos}
def tWhile (c : TT) (tb : TS) : TS := fun D σ H => ∃ W : Nat -> St -> Hp -> Prop, (∃ m, W m σ H) /\ ∀ m σ H, W m σ H ->
  c σ H fun b H1 => if b = true then ∃ N : St -> Hp -> Prop, (∀ σ' H', N σ' H' -> ∃ m', m' < m /\ W m' σ' H') /\ tb { D with nx := N, ct := N, bk := D.nx } σ H1 else D.nx σ H1
theorem ps_while {c : Expr} {body : List Stmt} {tc : TT} {tb : TS} (hp : PassesOwn (model X.prog X.w) X.A X.env X.xe) (hc : PT X c tc) (hb : PSs X body tb) : PS X (.While c body [] pos) (tWhile tc tb) := by
  intro pins s σ H D I h
  obtain ⟨W, ⟨m0, w0⟩, turn⟩ := h
  refine wpAny_While (codeAny_whileLoop (fun n s' => ∃ σ' H', Inv X pins σ' H' s' /\ W n σ' H') ?_ m0 ⟨σ, H, I, w0⟩)
  rintro n s1 ⟨σ1, H1, I1, w1⟩
  refine wpAny_passesOwn hp (thn (hc pins s1 σ1 H1 _ I1 (turn n σ1 H1 w1)) fun b s2 ⟨H2, I2, q2⟩ => ?_)
  cases b with
  | true =>
    obtain ⟨N, hN, q2⟩ := q2
    rw [if_pos rfl]
    refine wpAny_passesOwn hp (thn (hb pins s2 σ1 H2 _ I2 q2) fun f s3 q3 => ?_)
    cases f with
    | next =>
      obtain ⟨σ3, H3, I3, n3⟩ := q3
      obtain ⟨m', hm, w3⟩ := hN σ3 H3 n3
      exact ⟨m', hm, σ3, H3, I3, w3⟩
    | cont =>
      obtain ⟨σ3, H3, I3, n3⟩ := q3
      obtain ⟨m', hm, w3⟩ := hN σ3 H3 n3
      exact ⟨m', hm, σ3, H3, I3, w3⟩
    | brk => exact q3
    | ret v => exact q3
  | false =>
    rw [if_neg Bool.false_ne_true]
    exact wpAny_execs_nil ⟨σ1, H2, I2, q2⟩
end
structure It where
  go : Nat -> Hp -> Prop
  yld : Nat -> Hp -> V -> Hp -> Prop
  stop : Nat -> Hp -> Prop
def FpOk (X : Cx) (pins : List (Addr × Obj)) (H : Hp) (b : Addr) : Prop :=
  H b = none /\ b ≠ X.env.locals /\ b ∉ X.fs /\ (b ∈ X.ex \/ X.s_0.heap.objs.size <= b) /\ (∀ x c, X.env.cells.lookup x = some c -> c ≠ b) /\ ∀ p ∈ X.pn ++ pins, p.1 ≠ b
theorem Inv.fpOk {X : Cx} {pins : List (Addr × Obj)} {σ : St} {H H' : Hp} {s : Shared} {b : Addr} (I : Inv X pins σ H s) (hb : s.heap.objs.size <= b) (hn : H' b = none) : FpOk X pins H' b := by
  refine ⟨hn, Nat.ne_of_gt (Nat.lt_of_lt_of_le I.lt hb), I.nofs hb, .inr (Nat.le_trans I.sz hb), fun x c e z => ?_, fun p hp z => ?_⟩
  · obtain ⟨v, q⟩ := I.cell x c e
    exact absurd (Nat.lt_of_lt_of_le q.lt (by rw [z]; exact hb)) (Nat.lt_irrefl _)
  · exact absurd (Nat.lt_of_lt_of_le (Heap.lt_size (I.pin p hp).1) (by rw [z]; exact hb)) (Nat.lt_irrefl _)
structure Turn (P : Program) (w : World) (K : PySem.W.Frag) (tg : Expr) (J : It) (fp : List Addr) (it : Addr) (tn : Nat -> Heap -> Prop) : Prop where
  mem : it ∈ fp
  obj : ∀ i h, tn i h -> ∀ b ∈ fp, ∃ o, h.get? b = some o /\ ∀ v, o.data ≠ .cell v
  keep : ∀ i h h', tn i h -> (∀ b ∈ fp, ∀ o, h.get? b = some o -> h'.get? b = some o) -> tn i h'
  item : ∀ (X : Cx), X.prog = P -> X.w = w -> X.K = K -> X.calm = true -> ∀ (i : Nat) (pins : List (Addr × Obj)) (s : Shared) (σ : St) (H : Hp) (E : Value -> Shared -> Prop), Inv X pins σ H s -> (∀ b ∈ fp, FpOk X pins H b) -> tn i s.heap -> J.go i H ->
    wpAny (model P w) X.A (pyNext (.ref it)) (fun r s1 => ∃ u, r = some u /\
      wpAny (model P w) X.A (letOwnedTupleGo tg (.ref it) u) (fun _ s2 => ∃ x H', Inv X pins σ H' s2 /\ RelV x u /\ J.yld i H x H' /\ tn (i + 1) s2.heap /\ ∀ b ∈ fp, H' b = none) E s1) E s
  done : ∀ (X : Cx), X.prog = P -> X.w = w -> X.K = K -> X.calm = true -> ∀ (i : Nat) (pins : List (Addr × Obj)) (s : Shared) (σ : St) (H : Hp) (E : Value -> Shared -> Prop), Inv X pins σ H s -> (∀ b ∈ fp, FpOk X pins H b) -> tn i s.heap -> J.stop i H ->
    wpAny (model P w) X.A (pyNext (.ref it)) (fun r s1 => r = none /\ Inv X pins σ H s1) E s
  self : ∀ (A : Around) (i : Nat) (s : Shared) (Q : Value -> Shared -> Prop) (E : Value -> Shared -> Prop), tn i s.heap -> Q (.ref it) s -> wpAny (model P w) A (pyIter (.ref it)) Q E s
abbrev TI := St -> Hp -> (It -> Hp -> Prop) -> Prop
def PIE (X : Cx) (pins : List (Addr × Obj)) (σ : St) (tg : Expr) (R : It -> Hp -> Prop) (itv : Value) (s2 : Shared) : Prop :=
  ∃ (it : Addr) (fp : List Addr) (tn : Nat -> Heap -> Prop) (J : It) (H' : Hp), itv = .ref it /\ Inv X pins σ H' s2 /\ Turn X.prog X.w X.K tg J fp it tn /\ tn 0 s2.heap /\ (∀ b ∈ fp, FpOk X pins H' b) /\ R J H'
def PI (X : Cx) (tg iter : Expr) (wi : TI) : Prop :=
  ∀ (pins : List (Addr × Obj)) (s : Shared) (σ : St) (H : Hp) (R : It -> Hp -> Prop), Inv X pins σ H s -> wi σ H R ->
    wpAny (model X.prog X.w) X.A (eval iter X.env) (fun v s1 => wpAny (model X.prog X.w) X.A (pyIter v) (PIE X pins σ tg R) X.xe s1) X.xe s
theorem go_of {M : Model} {A : Around} {E : Value -> Shared -> Prop} {s : Shared} {tg : Expr} {it : Addr} {u : Value} {o : Obj} {n : String} {vs : Array Value} {Q : Unit -> Shared -> Prop} (ho : s.heap.get? it = some o) (hc : o.cls = .type n) (hd : o.data = .fields vs)
    (hn : ["enumerate", "zip", "dict_itemiterator", "dict_reverseitemiterator", "odict_iterator", "itertools.zip_longest", "itertools.pairwise"].contains n = false) (hQ : Q () s) : wpAny M A (letOwnedTupleGo tg (.ref it) u) Q E s := by
  unfold letOwnedTupleGo
  cases tg <;> first
    | exact wpAny_pure hQ
    | (cases u <;> first
        | exact wpAny_pure hQ
        | (refine wpAny_bind (wpAny_load ho ?_)
           rw [hc, hd]
           show wpAny M A (if (["enumerate", "zip", "dict_itemiterator", "dict_reverseitemiterator", "odict_iterator", "itertools.zip_longest", "itertools.pairwise"].contains n && vs[0]? == some (rawInt _)) = true then _ else _) Q E s
           rw [if_neg (by intro h; rw [hn, Bool.false_and] at h; cases h)]
           exact wpAny_pure hQ))
def Itl (K : PySem.W.Frag) (a : Addr) : It :=
  ⟨fun i H => ∃ xs x, SqL K H a xs /\ xs[i]? = some x, fun i H x H' => H' = H /\ ∀ xs, SqL K H a xs -> xs[i]? = some x, fun i H => ∃ xs, SqL K H a xs /\ xs.length <= i⟩
def Itt (K : PySem.W.Frag) (a : Addr) : It :=
  ⟨fun i H => ∃ xs x, SqT K H a xs /\ xs[i]? = some x, fun i H x H' => H' = H /\ ∀ xs, SqT K H a xs -> xs[i]? = some x, fun i H => ∃ xs, SqT K H a xs /\ xs.length <= i⟩
theorem turn_list {P : Program} {w : World} {K : PySem.W.Frag} {tg : Expr} (a it : Addr) : Turn P w K tg (Itl K a) [it] it (fun i h => h.IsListIter it a i) where
  mem := by simp
  obj := fun i h st b hb => by
    have e : b = it := by simpa using hb
    subst e
    obtain ⟨o, e, c, d⟩ := st
    exact ⟨o, e, fun v z => by rw [d] at z; cases z⟩
  keep := fun i h h' st k => st.at fun o e => k it (by simp) o e
  item := by
    intro X hP hw hK hc i pins s σ H E I hf st hg
    subst hP hw hK
    obtain ⟨xs, x, hq, hx⟩ := hg
    obtain ⟨its, rv, p, hz⟩ := I.list hq
    obtain ⟨u, hu, ru⟩ := rv.get hx
    obtain ⟨f0, f1, f2, f3, f4, f5⟩ := hf it (by simp)
    refine wpAny_pyNext_list_item st p.isList (x := u) (by simpa using hu) fun h' st' sb => ?_
    have I1 : Inv X pins σ H { s with heap := h' } := I.turned (t' := s.toks) (fun b o hb e => (sb.2 b hb).trans e) f0 f1 f3 f4 f5
    obtain ⟨o, e, c, d⟩ := id st'
    exact ⟨u, rfl, go_of (s := { s with heap := h' }) e c d (by decide) ⟨x, H, I1, ru, ⟨rfl, fun ys hy => by rw [I.list_inj hy hq]; exact hx⟩, st', fun b hb => (hf b hb).1⟩⟩
  done := by
    intro X hP hw hK hc i pins s σ H E I hf st hg
    subst hP hw hK
    obtain ⟨xs, hq, hx⟩ := hg
    obtain ⟨its, rv, p, hz⟩ := I.list hq
    obtain ⟨f0, f1, f2, f3, f4, f5⟩ := hf it (by simp)
    have hl := rv.length
    exact wpAny_pyNext_list_end (I.ok.hd hc) st p.isList (by simp; omega) fun h' eb => ⟨rfl, I.turned (t' := s.toks) (fun b o hb e => eb b o hb e) f0 f1 f3 f4 f5⟩
  self := fun _ _ _ _ _ st h => wpAny_pyIter_listiter st h
theorem turn_tuple {P : Program} {w : World} {K : PySem.W.Frag} {tg : Expr} (a it : Addr) : Turn P w K tg (Itt K a) [it] it (fun i h => h.IsTupleIter it a i) where
  mem := by simp
  obj := fun i h st b hb => by
    have e : b = it := by simpa using hb
    subst e
    obtain ⟨o, e, c, d⟩ := st
    exact ⟨o, e, fun v z => by rw [d] at z; cases z⟩
  keep := fun i h h' st k => st.at fun o e => k it (by simp) o e
  item := by
    intro X hP hw hK hc i pins s σ H E I hf st hg
    subst hP hw hK
    obtain ⟨xs, x, hq, hx⟩ := hg
    obtain ⟨its, rv, p, hz⟩ := I.tuple hq
    obtain ⟨u, hu, ru⟩ := rv.get hx
    obtain ⟨f0, f1, f2, f3, f4, f5⟩ := hf it (by simp)
    refine wpAny_pyNext_tuple_item st (show s.heap.IsTuple a its.toArray from p) (x := u) (by simpa using hu) fun h' st' sb => ?_
    have I1 : Inv X pins σ H { s with heap := h' } := I.turned (t' := s.toks) (fun b o hb e => (sb.2 b hb).trans e) f0 f1 f3 f4 f5
    obtain ⟨o, e, c, d⟩ := id st'
    exact ⟨u, rfl, go_of (s := { s with heap := h' }) e c d (by decide) ⟨x, H, I1, ru, ⟨rfl, fun ys hy => by rw [I.tuple_inj hy hq]; exact hx⟩, st', fun b hb => (hf b hb).1⟩⟩
  done := by
    intro X hP hw hK hc i pins s σ H E I hf st hg
    subst hP hw hK
    obtain ⟨xs, hq, hx⟩ := hg
    obtain ⟨its, rv, p, hz⟩ := I.tuple hq
    obtain ⟨f0, f1, f2, f3, f4, f5⟩ := hf it (by simp)
    have hl := rv.length
    exact wpAny_pyNext_tuple_end (I.ok.hd hc) st (show s.heap.IsTuple a its.toArray from p) (by simp; omega) fun h' eb => ⟨rfl, I.turned (t' := s.toks) (fun b o hb e => eb b o hb e) f0 f1 f3 f4 f5⟩
  self := fun _ _ _ _ _ st h => wpAny_pyIter_tupleiter st h
end L2
namespace L2
open PySem PySem.Spec PyProof.Rows
section
variable {X : Cx} {tg : Expr}
def iList (K : PySem.W.Frag) (tl : TE) : TI := fun σ H R => tl σ H fun x H1 => ∃ a, x = .ref a /\ (∃ xs, SqL K H1 a xs) /\ R (Itl K a) H1
def iTup (K : PySem.W.Frag) (tl : TE) : TI := fun σ H R => tl σ H fun x H1 => ∃ a, x = .ref a /\ (∃ xs, SqT K H1 a xs) /\ R (Itt K a) H1
theorem pi_list {l : Expr} {tl : TE} (hl : PE X l tl) : PI X tg l (iList X.K tl) := by
  intro pins s σ H R I h
  refine thn (hl pins s σ H _ I h) fun v s1 ⟨x, H1, I1, r1, q1⟩ => ?_
  obtain ⟨a, e, ⟨xs, hq⟩, q⟩ := q1
  subst e
  cases r1
  obtain ⟨its, rv, p, hz⟩ := I1.list hq
  refine wpAny_pyIter_list p.isList ?_
  refine ⟨s1.heap.objs.size, [s1.heap.objs.size], _, _, H1, rfl, I1.kept (t' := s1.toks) fun b o e => Heap.get?_push_of_some _ e, turn_list a _, ⟨_, Heap.get?_push_size _ rfl, rfl, rfl⟩, fun b hb => ?_, q⟩
  have e : b = s1.heap.objs.size := by simpa using hb
  subst e
  exact I1.fpOk (Nat.le_refl _) (I1.hok.fresh (Nat.le_refl _))
theorem pi_tup {l : Expr} {tl : TE} (hl : PE X l tl) : PI X tg l (iTup X.K tl) := by
  intro pins s σ H R I h
  refine thn (hl pins s σ H _ I h) fun v s1 ⟨x, H1, I1, r1, q1⟩ => ?_
  obtain ⟨a, e, ⟨xs, hq⟩, q⟩ := q1
  subst e
  cases r1
  obtain ⟨its, rv, p, hz⟩ := I1.tuple hq
  refine wpAny_pyIter_tuple (show s1.heap.IsTuple a its.toArray from p) ?_
  refine ⟨s1.heap.objs.size, [s1.heap.objs.size], _, _, H1, rfl, I1.kept (t' := s1.toks) fun b o e => Heap.get?_push_of_some _ e, turn_tuple a _, ⟨_, Heap.get?_push_size _ rfl, rfl, rfl⟩, fun b hb => ?_, q⟩
  have e : b = s1.heap.objs.size := by simpa using hb
  subst e
  exact I1.fpOk (Nat.le_refl _) (I1.hok.fresh (Nat.le_refl _))
def tFor (wi : TI) (g : TG) (tb : TS) : TS := fun D σ H => wi σ H fun J H1 => ∃ W : Nat -> Nat -> St -> Hp -> Prop, (∃ m, W 0 m σ H1) /\ ∀ i m σ H, W i m σ H ->
  (J.stop i H /\ D.nx σ H) \/ (J.go i H /\ ∃ N : St -> Hp -> Prop, (∀ σ' H', N σ' H' -> ∃ m', m' < m /\ W (i + 1) m' σ' H') /\ ∀ x H', J.yld i H x H' -> g x σ H' fun σ2 H2 => tb { D with nx := N, ct := N, bk := D.nx } σ2 H2)
def pinsAt (fp : List Addr) (h : Heap) : List (Addr × Obj) := fp.filterMap fun b => (h.get? b).map fun o => (b, o)
theorem mem_pinsAt {fp : List Addr} {h : Heap} {b : Addr} {o : Obj} (hb : b ∈ fp) (e : h.get? b = some o) : (b, o) ∈ pinsAt fp h := List.mem_filterMap.mpr ⟨b, hb, by rw [e]; rfl⟩
theorem of_pinsAt {fp : List Addr} {h : Heap} {p : Addr × Obj} (hp : p ∈ pinsAt fp h) : p.1 ∈ fp /\ h.get? p.1 = some p.2 := by
  obtain ⟨b, hb, e⟩ := List.mem_filterMap.mp hp
  cases q : h.get? b with
  | none => rw [q] at e; cases e
  | some o =>
    rw [q] at e
    have e' : (b, o) = p := Option.some.inj e
    subst e'
    exact ⟨hb, q⟩
theorem Inv.pinned {pins : List (Addr × Obj)} {σ : St} {H : Hp} {s : Shared} {fp : List Addr} (I : Inv X pins σ H s) (hf : ∀ b ∈ fp, FpOk X pins H b) (ho : ∀ b ∈ fp, ∃ o, s.heap.get? b = some o /\ ∀ v, o.data ≠ .cell v) : Inv X (pins ++ pinsAt fp s.heap) σ H s :=
  I.pins_of fun p hp => (List.mem_append.mp hp).elim (fun z => I.pin p (List.mem_append_right _ z)) fun z => by
    obtain ⟨hb, e⟩ := of_pinsAt z
    obtain ⟨f0, f1, f2, _⟩ := hf p.1 hb
    obtain ⟨o, e', d⟩ := ho p.1 hb
    rw [e] at e'; cases e'
    exact ⟨e, f0, f1, f2, d⟩
theorem Inv.unpinned {pins pl : List (Addr × Obj)} {σ : St} {H : Hp} {s : Shared} (I : Inv X (pins ++ pl) σ H s) : Inv X pins σ H s := I.pins_of fun p hp => I.pin p (List.mem_append_right _ (List.mem_append_left _ hp))
theorem ps_for {iter : Expr} {body : List Stmt} {wi : TI} {g : TG} {tb : TS} {pos : Pos} (hp : PassesOwn (model X.prog X.w) X.A X.env X.xe) (hc : X.calm = true) (hi : PI X tg iter wi) (hg : PG X tg g) (hb : PSs X body tb)
    (hs : ∀ x, foldedSetIterable iter X.env x = pure x := by intro _; rfl) : PS X (.For tg iter body [] pos) (tFor wi g tb) := by
  intro pins s σ H D I h
  refine wpAny_For (thn (hi pins s σ H _ I h) fun v s1 h1 => thn h1 fun itv s2 h2 => ?_) hs
  obtain ⟨it, fp, tn, J, H2, e, I2, T, st2, f2, W, ⟨m0, w0⟩, turn⟩ := h2
  subst e
  have stat : ∀ {H' : Hp}, (∀ b ∈ fp, H' b = none) -> ∀ b ∈ fp, FpOk X pins H' b := fun hn b hb => ⟨hn b hb, (f2 b hb).2⟩
  refine codeAny_forLoop_any (fun n s' => ∃ i σ' H', Inv X pins σ' H' s' /\ tn i s'.heap /\ (∀ b ∈ fp, H' b = none) /\ W i n σ' H') ?_ m0 ⟨0, σ, H2, I2, st2, fun b hb => (f2 b hb).1, w0⟩
  rintro n s3 ⟨i, σ3, H3, I3, st3, fr3, w3⟩
  rcases turn i n σ3 H3 w3 with ⟨stop, qn⟩ | ⟨go, N, hN, step⟩
  · refine wpAny_passesOwn hp (thn (T.done X rfl rfl rfl hc i pins s3 σ3 H3 X.xe I3 (stat fr3) st3 stop) fun r s4 ⟨hr, I4⟩ => ?_)
    subst hr
    exact wpAny_execs_nil ⟨σ3, H3, I4, qn⟩
  · refine wpAny_passesOwn hp (thn (T.item X rfl rfl rfl hc i pins s3 σ3 H3 X.xe I3 (stat fr3) st3 go) fun r s4 ⟨u, hr, h4⟩ => ?_)
    subst hr
    refine wpAny_passesOwn hp (thn h4 fun _ s5 ⟨x, H5, I5, r5, y5, st5, fr5⟩ => ?_)
    have I5' := I5.pinned (stat fr5) (T.obj _ _ st5)
    refine wpAny_passesOwn hp (thn (hg _ s5 σ3 H5 x u _ I5' r5 (step x H5 y5)) fun _ s6 ⟨σ6, H6, I6, q6⟩ => ?_)
    refine wpAny_passesOwn hp (thn (hb _ s6 σ6 H6 _ I6 q6) fun f s7 q7 => ?_)
    have again : ∀ {σ7 : St} {H7 : Hp}, Inv X (pins ++ pinsAt fp s5.heap) σ7 H7 s7 -> N σ7 H7 -> ∃ m, m < n /\ ∃ i σ' H', Inv X pins σ' H' s7 /\ tn i s7.heap /\ (∀ b ∈ fp, H' b = none) /\ W i m σ' H' := fun {σ7 H7} I7 n7 => by
      obtain ⟨m', hm, w7⟩ := hN σ7 H7 n7
      refine ⟨m', hm, i + 1, σ7, H7, I7.unpinned, T.keep _ _ _ st5 fun b hb o e => (I7.pin (b, o) (List.mem_append_right _ (List.mem_append_right _ (mem_pinsAt hb e)))).1, fun b hb => ?_, w7⟩
      obtain ⟨o, e, d⟩ := T.obj _ _ st5 b hb
      exact (I7.pin (b, o) (List.mem_append_right _ (List.mem_append_right _ (mem_pinsAt hb e)))).2.1
    cases f with
    | next => obtain ⟨σ7, H7, I7, n7⟩ := q7; exact again I7 n7
    | cont => obtain ⟨σ7, H7, I7, n7⟩ := q7; exact again I7 n7
    | brk => obtain ⟨σ7, H7, I7, q7⟩ := q7; exact ⟨σ7, H7, I7.unpinned, q7⟩
    | ret v => obtain ⟨x7, σ7, H7, I7, r7, q7⟩ := q7; exact ⟨x7, σ7, H7, I7.unpinned, r7, q7⟩
end
theorem for_list {K : PySem.W.Frag} {a : Addr} {xs : List V} {g : TG} {tb : TS} {D : Ends} {σ : St} {H : Hp} (Pv : Nat -> St -> Hp -> Prop) (h0 : Pv 0 σ H) (hl : ∀ i σ H, i <= xs.length -> Pv i σ H -> SqL K H a xs)
    (hs : ∀ i x σ H, xs[i]? = some x -> Pv i σ H -> g x σ H fun σ2 H2 => tb { D with nx := Pv (i + 1), ct := Pv (i + 1), bk := D.nx } σ2 H2) (hd : ∀ σ H, Pv xs.length σ H -> D.nx σ H) :
    ∃ W : Nat -> Nat -> St -> Hp -> Prop, (∃ m, W 0 m σ H) /\ ∀ i m σ H, W i m σ H ->
      ((Itl K a).stop i H /\ D.nx σ H) \/ ((Itl K a).go i H /\ ∃ N : St -> Hp -> Prop, (∀ σ' H', N σ' H' -> ∃ m', m' < m /\ W (i + 1) m' σ' H') /\ ∀ x H', (Itl K a).yld i H x H' -> g x σ H' fun σ2 H2 => tb { D with nx := N, ct := N, bk := D.nx } σ2 H2) := by
  refine ⟨fun i m σ H => m = xs.length - i /\ i <= xs.length /\ Pv i σ H, ⟨xs.length, by simp, Nat.zero_le _, h0⟩, ?_⟩
  rintro i m σ H ⟨rfl, hi, p⟩
  have q := hl i σ H hi p
  by_cases hlt : i < xs.length
  · refine .inr ⟨⟨xs, xs[i], q, by simp [hlt]⟩, Pv (i + 1), fun σ' H' p' => ⟨xs.length - (i + 1), by omega, rfl, hlt, p'⟩, fun x H' y => ?_⟩
    obtain ⟨e, y⟩ := y
    subst e
    exact hs i x σ _ (y xs q) p
  · have e : i = xs.length := by omega
    subst e
    exact .inl ⟨⟨xs, q, Nat.le_refl _⟩, hd σ H p⟩
theorem for_tup {K : PySem.W.Frag} {a : Addr} {xs : List V} {g : TG} {tb : TS} {D : Ends} {σ : St} {H : Hp} (Pv : Nat -> St -> Hp -> Prop) (h0 : Pv 0 σ H) (hl : ∀ i σ H, i <= xs.length -> Pv i σ H -> SqT K H a xs)
    (hs : ∀ i x σ H, xs[i]? = some x -> Pv i σ H -> g x σ H fun σ2 H2 => tb { D with nx := Pv (i + 1), ct := Pv (i + 1), bk := D.nx } σ2 H2) (hd : ∀ σ H, Pv xs.length σ H -> D.nx σ H) :
    ∃ W : Nat -> Nat -> St -> Hp -> Prop, (∃ m, W 0 m σ H) /\ ∀ i m σ H, W i m σ H ->
      ((Itt K a).stop i H /\ D.nx σ H) \/ ((Itt K a).go i H /\ ∃ N : St -> Hp -> Prop, (∀ σ' H', N σ' H' -> ∃ m', m' < m /\ W (i + 1) m' σ' H') /\ ∀ x H', (Itt K a).yld i H x H' -> g x σ H' fun σ2 H2 => tb { D with nx := N, ct := N, bk := D.nx } σ2 H2) := by
  refine ⟨fun i m σ H => m = xs.length - i /\ i <= xs.length /\ Pv i σ H, ⟨xs.length, by simp, Nat.zero_le _, h0⟩, ?_⟩
  rintro i m σ H ⟨rfl, hi, p⟩
  have q := hl i σ H hi p
  by_cases hlt : i < xs.length
  · refine .inr ⟨⟨xs, xs[i], q, by simp [hlt]⟩, Pv (i + 1), fun σ' H' p' => ⟨xs.length - (i + 1), by omega, rfl, hlt, p'⟩, fun x H' y => ?_⟩
    obtain ⟨e, y⟩ := y
    subst e
    exact hs i x σ _ (y xs q) p
  · have e : i = xs.length := by omega
    subst e
    exact .inl ⟨⟨xs, q, Nat.le_refl _⟩, hd σ H p⟩
end L2
namespace L2
open PySem PySem.Spec PyProof.Rows
abbrev R2 := V -> V -> Hp -> VK -> Prop
def OpR (X : Cx) (f : Value -> Value -> Sem Value) (r : R2) : Prop :=
  ∀ (pins : List (Addr × Obj)) (s : Shared) (σ : St) (H : Hp) (x y : V) (v u : Value) (Q : VK), Inv X pins σ H s -> RelV x v -> RelV y u -> r x y H Q ->
    wpAny (model X.prog X.w) X.A (f v u) (EP X pins σ Q) X.xe s
def UnR (X : Cx) (f : Value -> Sem Value) (r : V -> Hp -> VK -> Prop) : Prop :=
  ∀ (pins : List (Addr × Obj)) (s : Shared) (σ : St) (H : Hp) (x : V) (v : Value) (Q : VK), Inv X pins σ H s -> RelV x v -> r x H Q ->
    wpAny (model X.prog X.w) X.A (f v) (EP X pins σ Q) X.xe s
def CallR (X : Cx) (f : Value) (r : List V -> Hp -> VK -> Prop) : Prop :=
  ∀ (pins : List (Addr × Obj)) (s : Shared) (σ : St) (H : Hp) (xs : List V) (us : List Value) (Q : VK), Inv X pins σ H s -> Vals xs us -> r xs H Q ->
    wpAny (model X.prog X.w) X.A (call f us) (EP X pins σ Q) X.xe s
def TruR (X : Cx) (r : V -> Hp -> (Bool -> Hp -> Prop) -> Prop) : Prop :=
  ∀ (pins : List (Addr × Obj)) (s : Shared) (σ : St) (H : Hp) (x : V) (v : Value) (Q : Bool -> Hp -> Prop), Inv X pins σ H s -> RelV x v -> r x H Q ->
    wpAny (model X.prog X.w) X.A (truthy v) (TP X pins σ Q) X.xe s
def tOp (r : R2) (ta tb : TE) : TE := fun σ H Q => ta σ H fun x H1 => tb σ H1 fun y H2 => r x y H2 Q
def tUn (r : V -> Hp -> VK -> Prop) (ta : TE) : TE := fun σ H Q => ta σ H fun x H1 => r x H1 Q
def rI0 (g : Int -> Int -> V) : R2 := fun x y H Q => ∃ i j, x = .int i /\ y = .int j /\ Q (g i j) H
def rU (g : Int -> V) : V -> Hp -> VK -> Prop := fun x H Q => ∃ i, x = .int i /\ Q (g i) H
section
variable {X : Cx} {a b c : Expr} {ta tb tc : TE} {pos : Pos}
theorem binT (ha : PE X a ta) (hb : PE X b tb) {pins : List (Addr × Obj)} {s : Shared} {σ : St} {H : Hp} {R : V -> V -> Hp -> Prop} (I : Inv X pins σ H s)
    (h : ta σ H fun x H1 => tb σ H1 fun y H2 => R x y H2) {Q : Value -> Shared -> Prop} {f : Value -> Value -> Sem Value}
    (hf : ∀ v u s2 x y H2, Inv X pins σ H2 s2 -> RelV x v -> RelV y u -> R x y H2 -> wpAny (model X.prog X.w) X.A (f v u) Q X.xe s2) :
    wpAny (model X.prog X.w) X.A (eval a X.env) (fun v s₁ => wpAny (model X.prog X.w) X.A (eval b X.env) (fun u s₂ => wpAny (model X.prog X.w) X.A (f v u) Q X.xe s₂) X.xe s₁) X.xe s := by
  refine thn (ha pins s σ H _ I h) fun v s1 ⟨x, H1, I1, r1, q1⟩ => ?_
  refine thn (hb pins s1 σ H1 _ I1 q1) fun u s2 ⟨y, H2, I2, r2, q2⟩ => ?_
  exact hf v u s2 x y H2 I2 r1 r2 q2
theorem pe_op {op : Operator} {r : R2} (ho : OpR X (binaryOp op) r) (ha : PE X a ta) (hb : PE X b tb) : PE X (.BinOp a op b pos) (tOp r ta tb) := by
  intro pins s σ H Q I h
  exact wpAny_BinOp (binT ha hb I h fun v u s2 x y H2 I2 rx ry q => ho pins s2 σ H2 x y v u Q I2 rx ry q)
theorem pe_un {op : UnaryOp} {r : V -> Hp -> VK -> Prop} (ho : UnR X (unaryOp op) r) (ha : PE X a ta) : PE X (.UnaryOp op a pos) (tUn r ta) := by
  intro pins s σ H Q I h
  exact UnaryOp_ (thn (ha pins s σ H _ I h) fun v s1 ⟨x, H1, I1, r1, q1⟩ => ho pins s1 σ H1 x v Q I1 r1 q1)
theorem opI0 {f : Value -> Value -> Sem Value} {g : Int -> Int -> Int}
    (rule : ∀ (i j : Int) (t u : Tok) (s : Shared) (Q : Value -> Shared -> Prop) (E : Value -> Shared -> Prop), Q (.int (g i j) s.toks) { s with toks := s.toks + 1 } -> wpAny (model X.prog X.w) X.A (f (.int i t) (.int j u)) Q E s) :
    OpR X f (rI0 fun i j => .int (g i j)) := by
  intro pins s σ H x y v u Q I rx ry h
  obtain ⟨i, j, rfl, rfl, q⟩ := h
  obtain ⟨t, rfl⟩ := rx
  obtain ⟨t', rfl⟩ := ry
  exact rule i j t t' s _ _ ⟨.int (g i j), H, I.tok _, ⟨_, rfl⟩, q⟩
theorem opB0 {f : Value -> Value -> Sem Value} {g : Int -> Int -> Bool}
    (rule : ∀ (i j : Int) (t u : Tok) (s : Shared) (Q : Value -> Shared -> Prop) (E : Value -> Shared -> Prop), Q (.bool (g i j)) s -> wpAny (model X.prog X.w) X.A (f (.int i t) (.int j u)) Q E s) :
    OpR X f (rI0 fun i j => .bl (g i j)) := by
  intro pins s σ H x y v u Q I rx ry h
  obtain ⟨i, j, rfl, rfl, q⟩ := h
  obtain ⟨t, rfl⟩ := rx
  obtain ⟨t', rfl⟩ := ry
  exact rule i j t t' s _ _ ⟨.bl (g i j), H, I, rfl, q⟩
theorem op_add : OpR X (binaryOp .Add) (rI0 fun i j => .int (i + j)) := opI0 fun _ _ _ _ _ _ _ q => add_int q
theorem op_sub : OpR X (binaryOp .Sub) (rI0 fun i j => .int (i - j)) := opI0 fun _ _ _ _ _ _ _ q => sub_int q
theorem unI {f : Value -> Sem Value} {g : Int -> Int}
    (rule : ∀ (i : Int) (t : Tok) (s : Shared) (Q : Value -> Shared -> Prop) (E : Value -> Shared -> Prop), Q (.int (g i) s.toks) { s with toks := s.toks + 1 } -> wpAny (model X.prog X.w) X.A (f (.int i t)) Q E s) :
    UnR X f (rU fun i => .int (g i)) := by
  intro pins s σ H x v Q I rx h
  obtain ⟨i, rfl, q⟩ := h
  obtain ⟨t, rfl⟩ := rx
  exact rule i t s _ _ ⟨.int (g i), H, I.tok _, ⟨_, rfl⟩, q⟩
theorem un_neg : UnR X (unaryOp .USub) (rU fun i => .int (-i)) := unI fun _ _ _ _ _ q => neg_int q
end
def scal : V -> V -> Bool
  | .non, .non => true | .non, .int _ => true | .int _, .non => true | .non, .bl _ => true | .bl _, .non => true | .non, .str _ => true | .str _, .non => true
  | .int _, .int _ => true | .bl _, .bl _ => true | .str _, .str _ => true | .byt _, .byt _ => true
  | .int _, .str _ => true | .str _, .int _ => true | .bl _, .str _ => true | .str _, .bl _ => true
  | _, _ => false
def rEq : R2 := fun x y H Q => scal x y = true /\ Q (.bl (decide (x = y))) H
def rNe : R2 := fun x y H Q => scal x y = true /\ Q (.bl (!decide (x = y))) H
theorem dec_int {i j : Int} : decide (V.int i = V.int j) = (i == j) := by
  rw [Bool.eq_iff_iff]
  simp
theorem dec_bl {i j : Bool} : decide (V.bl i = V.bl j) = (i == j) := by
  rw [Bool.eq_iff_iff]
  simp
theorem dec_str {i j : Str} : decide (V.str i = V.str j) = (i == j) := by
  rw [Bool.eq_iff_iff]
  simp
theorem dec_byt {i j : Array UInt8} : decide (V.byt i = V.byt j) = (i.toList == j.toList) := by
  rw [Bool.eq_iff_iff]
  cases i
  cases j
  simp
section
variable {X : Cx} {a b c : Expr} {ta tb tc : TE} {pos : Pos}
theorem fin_bl {pins : List (Addr × Obj)} {σ : St} {H : Hp} {s : Shared} {Q : VK} {k k' : Bool} (I : Inv X pins σ H s) (q : Q (.bl k) H) (e : k = k') : EP X pins σ Q (.bool k') s := by
  subst e
  exact ⟨.bl k, H, I, rfl, q⟩
theorem op_eq : OpR X (compareOp .Eq) rEq := by
  intro pins s σ H x y v u Q I rx ry h
  obtain ⟨hs, q⟩ := h
  cases x with
  | non =>
    cases rx
    cases y with
    | non => cases ry; exact PySem.EqNone.eq_none_none (fin_bl I q (by simp))
    | bl j => cases ry; exact PySem.EqNone.eq_none_bool (fin_bl I q (by simp))
    | int j => obtain ⟨t', rfl⟩ := ry; exact PySem.EqNone.eq_none_int (fin_bl I q (by simp))
    | str j => obtain ⟨t', rfl⟩ := ry; exact PySem.EqNone.eq_none_str (fin_bl I q (by simp))
    | _ => exact absurd (show false = true from hs) Bool.false_ne_true
  | bl i =>
    cases rx
    cases y with
    | non => cases ry; exact PySem.EqNone.eq_bool_none (fin_bl I q (by simp))
    | bl j => cases ry; exact eq_bool (fin_bl I q dec_bl)
    | str j => obtain ⟨t', rfl⟩ := ry; exact PySem.EqMixed.eq_bool_str (fin_bl I q (by simp))
    | _ => exact absurd (show false = true from hs) Bool.false_ne_true
  | int i =>
    obtain ⟨t, rfl⟩ := rx
    cases y with
    | non => cases ry; exact PySem.EqNone.eq_int_none (fin_bl I q (by simp))
    | int j => obtain ⟨t', rfl⟩ := ry; exact eq_int (fin_bl I q dec_int)
    | str j => obtain ⟨t', rfl⟩ := ry; exact PySem.EqMixed.eq_int_str (fin_bl I q (by simp))
    | _ => exact absurd (show false = true from hs) Bool.false_ne_true
  | str i =>
    obtain ⟨t, rfl⟩ := rx
    cases y with
    | non => cases ry; exact PySem.EqNone.eq_str_none (fin_bl I q (by simp))
    | bl j => cases ry; exact PySem.EqMixed.eq_str_bool (fin_bl I q (by simp))
    | int j => obtain ⟨t', rfl⟩ := ry; exact PySem.EqMixed.eq_str_int (fin_bl I q (by simp))
    | str j => obtain ⟨t', rfl⟩ := ry; exact eq_str (fin_bl I q dec_str)
    | _ => exact absurd (show false = true from hs) Bool.false_ne_true
  | byt i =>
    obtain ⟨t, rfl⟩ := rx
    cases y with
    | byt j => obtain ⟨t', rfl⟩ := ry; exact PySem.W.eq_bytes (fin_bl I q dec_byt)
    | _ => exact absurd (show false = true from hs) Bool.false_ne_true
  | _ => cases y <;> exact absurd (show false = true from hs) Bool.false_ne_true
theorem op_ne : OpR X (compareOp .NotEq) rNe := by
  intro pins s σ H x y v u Q I rx ry h
  obtain ⟨hs, q⟩ := h
  cases x with
  | non =>
    cases rx
    cases y with
    | non => cases ry; exact PySem.EqNone.ne_none_none (fin_bl I q (by simp))
    | bl j => cases ry; exact PySem.EqNone.ne_none_bool (fin_bl I q (by simp))
    | int j => obtain ⟨t', rfl⟩ := ry; exact PySem.EqNone.ne_none_int (fin_bl I q (by simp))
    | str j => obtain ⟨t', rfl⟩ := ry; exact PySem.EqNone.ne_none_str (fin_bl I q (by simp))
    | _ => exact absurd (show false = true from hs) Bool.false_ne_true
  | bl i =>
    cases rx
    cases y with
    | non => cases ry; exact PySem.EqNone.ne_bool_none (fin_bl I q (by simp))
    | bl j => cases ry; exact ne_bool (fin_bl I q (congrArg not dec_bl))
    | str j => obtain ⟨t', rfl⟩ := ry; exact PySem.EqMixed.ne_bool_str (fin_bl I q (by simp))
    | _ => exact absurd (show false = true from hs) Bool.false_ne_true
  | int i =>
    obtain ⟨t, rfl⟩ := rx
    cases y with
    | non => cases ry; exact PySem.EqNone.ne_int_none (fin_bl I q (by simp))
    | int j => obtain ⟨t', rfl⟩ := ry; exact ne_int (fin_bl I q (congrArg not dec_int))
    | str j => obtain ⟨t', rfl⟩ := ry; exact PySem.EqMixed.ne_int_str (fin_bl I q (by simp))
    | _ => exact absurd (show false = true from hs) Bool.false_ne_true
  | str i =>
    obtain ⟨t, rfl⟩ := rx
    cases y with
    | non => cases ry; exact PySem.EqNone.ne_str_none (fin_bl I q (by simp))
    | bl j => cases ry; exact PySem.EqMixed.ne_str_bool (fin_bl I q (by simp))
    | int j => obtain ⟨t', rfl⟩ := ry; exact PySem.EqMixed.ne_str_int (fin_bl I q (by simp))
    | str j => obtain ⟨t', rfl⟩ := ry; exact ne_str (fin_bl I q (congrArg not dec_str))
    | _ => exact absurd (show false = true from hs) Bool.false_ne_true
  | byt i =>
    obtain ⟨t, rfl⟩ := rx
    cases y with
    | byt j => obtain ⟨t', rfl⟩ := ry; exact PySem.W.ne_bytes (fin_bl I q (congrArg not dec_byt))
    | _ => exact absurd (show false = true from hs) Bool.false_ne_true
  | _ => cases y <;> exact absurd (show false = true from hs) Bool.false_ne_true
theorem op_lt : OpR X (compareOp .Lt) (rI0 fun i j => .bl (decide (i < j))) := opB0 fun _ _ _ _ _ _ _ q => lt_int q
theorem op_le : OpR X (compareOp .LtE) (rI0 fun i j => .bl (decide (i <= j))) := opB0 fun _ _ _ _ _ _ _ q => le_int q
theorem op_gt : OpR X (compareOp .Gt) (rI0 fun i j => .bl (decide (j < i))) := opB0 fun _ _ _ _ _ _ _ q => gt_int q
theorem nomark (b : Expr) {op : CmpOp} (h : op ≠ .In := by decide) (h2 : op ≠ .NotIn := by decide) : behindInMarks op b = false := by
  have e1 : (op == CmpOp.In) = false := by cases op <;> first | rfl | exact absurd rfl h
  have e2 : (op == CmpOp.NotIn) = false := by cases op <;> first | rfl | exact absurd rfl h2
  cases b <;> simp [behindInMarks, e1, e2]
theorem pe_cmpR {op : CmpOp} {r : R2} (ho : OpR X (compareOp op) r) (ha : PE X a ta) (hb : PE X b tb) (hm : behindInMarks op b = false) : PE X (.Compare a [op] [b] pos) (tOp r ta tb) := by
  intro pins s σ H Q I h
  exact wpAny_Compare1 (binT ha hb I h fun v u s2 x y H2 I2 rx ry q => ho pins s2 σ H2 x y v u Q I2 rx ry q) hm
def tTest (t : TE) : TT := fun σ H Q => t σ H fun x H' => ∃ k, x = .bl k /\ Q k H'
theorem pt_cmpR {op : CmpOp} {r : R2} (ho : OpR X (compareOp op) r) (ha : PE X a ta) (hb : PE X b tb) (hm : behindInMarks op b = false) : PT X (.Compare a [op] [b] pos) (tTest (tOp r ta tb)) := by
  intro pins s σ H Q I h
  refine wpAny_isTrue_Compare1 (thn (ha pins s σ H _ I h) fun v s1 ⟨x, H1, I1, r1, q1⟩ => thn (hb pins s1 σ H1 _ I1 q1) fun u s2 ⟨y, H2, I2, r2, q2⟩ =>
    thn (ho pins s2 σ H2 x y v u _ I2 r1 r2 q2) fun c s3 ⟨z, H3, I3, r3, k, e, q3⟩ => ?_) hm
  subst e
  cases r3
  exact wpAny_truthy_bool ⟨H3, I3, q3⟩
def tChain (r r' : R2) (ta tb tc : TE) : TE := fun σ H Q => ta σ H fun x H1 => tb σ H1 fun y H2 => r x y H2 fun z H3 => ∃ k, z = .bl k /\
  (if k = true then tc σ H3 fun w' H4 => r' y w' H4 Q else Q (.bl false) H3)
theorem pe_chain {op op' : CmpOp} {r r' : R2} (ho : OpR X (compareOp op) r) (ho' : OpR X (compareOp op') r') (ha : PE X a ta) (hb : PE X b tb) (hc : PE X c tc)
    (hm : lastMarks [op, op'] [b, c] = false := by with_unfolding_all rfl) : PE X (.Compare a [op, op'] [b, c] pos) (tChain r r' ta tb tc) := by
  intro pins s σ H Q I h
  refine Compare_chain (thn (ha pins s σ H _ I h) fun v s1 ⟨x, H1, I1, r1, q1⟩ => chain_link (thn (hb pins s1 σ H1 _ I1 q1) fun u s2 ⟨y, H2, I2, r2, q2⟩ =>
    thn (ho pins s2 σ H2 x y v u _ I2 r1 r2 q2) fun d s3 ⟨z, H3, I3, r3, k, e, q3⟩ => ?_)) hm
  subst e
  cases r3
  refine wpAny_truthy_bool ?_
  cases k with
  | false => exact ite_ff ⟨.bl false, H3, I3, rfl, q3⟩
  | true => exact ite_tt (chain_last (thn (hc pins s3 σ H3 _ I3 q3) fun w' s4 ⟨z', H4, I4, r4, q4⟩ => ho' pins s4 σ H4 y z' u w' Q I4 r2 r4 q4))
def TruV (K : PySem.W.Frag) (x : V) (H : Hp) (k : Bool) : Prop :=
  match x with
  | .non => k = false
  | .bl b => k = b
  | .int i => k = (i != 0)
  | .str y => y.length <= sizeLine /\ k = ((y.length : Int) != 0)
  | .byt y => y.size <= sizeLine /\ k = ((y.size : Int) != 0)
  | .ref p => (∃ xs, SqL K H p xs /\ k = !xs.isEmpty) \/ (∃ xs, SqT K H p xs /\ k = !xs.isEmpty) \/ ∃ kvs, H p = some (.dK kvs) /\ k = !kvs.isEmpty
  | _ => False
theorem isEmpty_kv {κ : Type} {kvs : List (κ × V)} {vs : List (κ × Value)} (r : KV kvs vs) : (!vs.isEmpty) = !kvs.isEmpty := by
  cases r <;> rfl
theorem isEmpty_of {xs : List V} {its : List Value} (r : Vals xs its) : (!its.toArray.isEmpty) = !xs.isEmpty := by
  cases r <;> simp
theorem line63 : (sizeLine : Nat) < 2 ^ 63 := by rw [sizeLine_eq]; decide
theorem tru_ok : TruR X (fun x H Q => ∃ k, TruV X.K x H k /\ Q k H) := by
  intro pins s σ H x v Q I rx h
  obtain ⟨k, e, q⟩ := h
  have hl := line63
  have hs : sizeLine = 16777216 := sizeLine_eq
  cases x with
  | non =>
    cases rx
    have e' : k = false := e
    subst e'
    exact truthy_none ⟨H, I, q⟩
  | bl b =>
    cases rx
    have e' : k = b := e
    subst e'
    exact wpAny_truthy_bool ⟨H, I, q⟩
  | int i =>
    obtain ⟨t, rfl⟩ := rx
    have e' : k = (i != 0) := e
    subst e'
    exact PySem.P.truthy_int ⟨H, I, q⟩
  | str y =>
    obtain ⟨t, rfl⟩ := rx
    obtain ⟨hy, e'⟩ : y.length <= sizeLine /\ k = ((y.length : Int) != 0) := e
    subst e'
    exact PySem.P.truthy_str (by omega) ⟨H, I.tok _, q⟩
  | byt y =>
    obtain ⟨t, rfl⟩ := rx
    obtain ⟨hy, e'⟩ : y.size <= sizeLine /\ k = ((y.size : Int) != 0) := e
    subst e'
    exact PySem.W.truthy_bytes (by omega) ⟨H, I.tok _, q⟩
  | ref p =>
    cases rx
    have e' : (∃ xs, SqL X.K H p xs /\ k = !xs.isEmpty) \/ (∃ xs, SqT X.K H p xs /\ k = !xs.isEmpty) \/ ∃ kvs, H p = some (.dK kvs) /\ k = !kvs.isEmpty := e
    rcases e' with ⟨xs, hx, e'⟩ | ⟨xs, hx, e'⟩ | ⟨kvs, hx, e'⟩
    · subst e'
      obtain ⟨its, r, pl, hz⟩ := I.list hx
      have hlen := r.length
      exact wpAny_truthy_list pl.isList (by simp only [List.size_toArray]; omega) ⟨H, I.tok _, by rw [isEmpty_of r]; exact q⟩
    · subst e'
      obtain ⟨its, r, pl, hz⟩ := I.tuple hx
      have hlen := r.length
      exact truthy_tuple pl (by simp only [List.size_toArray]; omega) ⟨H, I.tok _, by rw [isEmpty_of r]; exact q⟩
    · subst e'
      obtain ⟨hz, hS, vs, r, m⟩ : kvs.length <= sizeLine /\ (p == sysModules) = false /\ ∃ vs, KV kvs vs /\ s.heap.DictOf (mixKind X.prog X.w) p vs := I.hok p _ hx
      have hlen : kvs.length = vs.length := Paired.length r
      exact wpAny_truthy_dict hS m (by omega) ⟨H, I.tok _, by rw [isEmpty_kv r]; exact q⟩
  | _ => exact (show False from e).elim
theorem pt_truth (ha : PE X a ta) (he : ∀ whole, isTrue a X.env whole = (do let v <- whole; standAt a.pos; holding [v] (truthy v))) :
    PT X a (fun σ H Q => ta σ H fun x H' => ∃ k, TruV X.K x H' k /\ Q k H') := by
  intro pins s σ H Q I h
  exact isTrue_plain (thn (ha pins s σ H _ I h) fun v s1 ⟨x, H1, I1, r1, q1⟩ => tru_ok pins s1 σ H1 x v Q I1 r1 q1) (he _)
theorem vals1 {x : V} {us : List Value} (r : Vals [x] us) : ∃ u, us = [u] /\ RelV x u := by
  cases r with
  | cons r1 r2 => cases r2; exact ⟨_, rfl, r1⟩
theorem call_ord : CallR X (.builtin "ord") (fun xs H Q => ∃ x, xs = [.str x] /\ x.length = 1 /\ Q (.int (x.cps.getD 0 0 : Nat)) H) := by
  intro pins s σ H xs us Q I r h
  obtain ⟨x, rfl, hz, q⟩ := h
  obtain ⟨u, rfl, t, rfl⟩ := vals1 r
  exact ord_of_one hz ⟨.int _, H, I.tok _, ⟨_, rfl⟩, q⟩
end
end L2
namespace L2
open PySem PySem.Spec PyProof.Rows
structure ObjM (h : Heap) (x dx C : Addr) (mA : Str -> Option Value) : Prop where
  obj : h.get? x = some (PySem.W.instObj C dx)
  ns : h.Ns1 dx mA
  ne : dx ≠ x
theorem lookIn_ns {h : Heap} {dx : Addr} {mA : Str -> Option Value} (n : h.Ns1 dx mA) : ∃ od, h.get? dx = some od /\ ∀ name, PySem.W.lookIn name od = some (mA name) := by
  obtain ⟨o, es, ep, ho, hd, hk, _, hm⟩ := n
  refine ⟨o, ho, fun name => ?_⟩
  have e := hm name
  unfold nsFind findBy at e
  rw [<- Array.find?_toList] at e
  unfold PySem.W.lookIn
  rw [hd]
  dsimp only
  split
  · rename_i y q
    rw [q] at e
    exact congrArg some e
  · rename_i q
    rw [q] at e
    have a : es.toList.any (·.refKey) = false := by
      rw [List.any_eq_false]
      intro y hy
      obtain ⟨z, t, hkey⟩ := hk y (Array.mem_toList_iff.mp hy)
      simp [DictEntry.refKey, hkey]
    have a' : ¬ es.toList.any (·.refKey) = true := by rw [a]; exact Bool.false_ne_true
    rw [if_neg a']
    exact congrArg some e
theorem ObjM.look {h : Heap} {x dx C : Addr} {mA : Str -> Option Value} (I : ObjM h x dx C mA) : ∃ od, PySem.W.InstAt h x (PySem.W.instObj C dx) C (some od) /\ ∀ name, PySem.W.lookIn name od = some (mA name) :=
  let ⟨od, ho, hl⟩ := lookIn_ns I.ns
  ⟨od, ⟨I.obj, rfl, rfl, ho⟩, hl⟩
section
variable {prog : Program} {w : World} {A : Around} {E : Value -> Shared -> Prop} {s : Shared} {K : PySem.W.Frag} {x dx C f : Addr} {mA : Str -> Option Value} {name : Str} {v : Value}
theorem get_map {expr : Bool} {Q : Value -> Shared -> Prop} (X : K.In s.heap) (I : ObjM s.heap x dx C mA) (hg : PySem.W.plainGet K C name = true) (hh : PySem.W.hasDictIn K C = true)
    (ha : PySem.W.findIn K (.ref C) name = some none) (hv : mA name = some v) (hv' : PySem.W.handedIn v = true) (h : Q v { s with toks := s.toks + 1 }) :
    wpAny (model prog w) A (getAttr (.ref x) name expr) Q E s := by
  obtain ⟨od, J, hl⟩ := I.look
  exact PySem.W.get_value X J (PySem.W.plainGet_of hg).1 (PySem.W.findObj_own hh ha rfl (by rw [hl, hv])) hv' h
theorem get_meth {pl : Sem Bool} {Q : Value × List Value -> Shared -> Prop} (X : K.In s.heap) (I : ObjM s.heap x dx C mA) (hg : PySem.W.plainGet K C name = true)
    (hf : PySem.W.findIn K (.ref C) name = some (some (.ref f))) (ht : PySem.W.isFn K (.ref f) = true) (hv : mA name = none) (h : Q (.ref f, [.ref x]) s) :
    wpAny (model prog w) A (getMethod (.ref x) name pl) Q E s := by
  obtain ⟨od, J, hl⟩ := I.look
  exact PySem.W.method_fn X J (PySem.W.plainGet_of hg).1 (PySem.W.plainGet_of hg).2 hf (beq_iff_eq.mp ht) (by show (PySem.W.lookIn name od).map (·.isSome) = some false; rw [hl, hv]; rfl) h
theorem set_map {ns : List Str} {Q : Unit -> Shared -> Prop} (X : K.In s.heap) (I : ObjM s.heap x dx C mA)
    (hs : PySem.W.findIn K (.ref C) "__setattr__" = some (some (.builtin "object.__setattr__"))) (hp : PySem.W.plainOver K C = true) (ht : PySem.W.takerIn K C name = some none) (hh : PySem.W.hasDictIn K C = true)
    (hw : PySem.Within mA ns) (hsz : ns.length <= sizeLine)
    (h : ∀ h', ObjM h' x dx C (fun y => if y = name then some v else mA y) -> Heap.SameBut dx s.heap h' -> Q () { s with heap := h', toks := s.toks + 2 }) :
    wpAny (model prog w) A (setAttr (.ref x) name v) Q E s := by
  obtain ⟨od, J, hl⟩ := I.look
  refine PySem.W.set_plain X J hs (PySem.W.osa_open (s := { s with toks := s.toks + 1 }) (r := none) X J hp ht fun b => ?_)
  obtain ⟨cd, hc, hd'⟩ := PySem.W.any_some hh
  have hx : s.heap.get? x = some ⟨.ref C, some dx, .plain, #[]⟩ := I.obj
  refine wpAny_bind (wpAny_pure (wpAny_bind (wpAny_bind (wpAny_loadPart hx (wpAny_bind (PySem.W.Looks.here (s := { s with toks := s.toks + 1 }) (PySem.W.looks_clsIn X hc) ?_))))))
  rw [hd']
  refine wpAny_pure (a := some dx) (wpAny_bind (wpAny_pure (wpAny_bind ?_)))
  refine wpAny_nsSet1 (s := { s with toks := s.toks + 1 }) I.ns fun h' hn2 hs2 => ?_
  obtain ⟨oD, esD, epD, hoD, hdD, hcD⟩ := hn2.count (PySem.Within.cons name v hw)
  refine wpAny_bind (wpAny_lookBehind hoD (by rw [hdD]; exact pastItsLine_dict (Nat.le_trans hcD (by rw [List.length_cons]; omega))) ?_)
  exact wpAny_pure (h _ ⟨(hs2.2 _ (Ne.symm I.ne)).trans I.obj, hn2, I.ne⟩ hs2)
theorem make_map {R : Result -> Shared -> Prop} {vs : List Value} {kw : List (Str × Value)} (X : K.In s.heap) (hm : PySem.W.makesIn K C = true)
    (hi : PySem.W.findIn K (.ref C) "__init__" = some (some (.ref f))) (hf : PySem.W.typeIn K (.ref f) = some (.type "function"))
    (h : codeAny (model prog w) (A.under (.builtin "type.__call__" ⟨.ref C :: vs, kw⟩)) (.call (.ref f) ⟨.ref (s.heap.objs.size + 1) :: vs, kw⟩) (PySem.W.InitBack (s.heap.objs.size + 1) R)
      { s with heap := (s.heap.push PySem.W.emptyDict).push (PySem.W.instObj C s.heap.objs.size) }) :
    codeAny (model prog w) A (.call (.ref C) ⟨vs, kw⟩) R s := by
  obtain ⟨hh, g, d, t, os⟩ := s
  exact PySem.W.make_core (PySem.W.makes_of X hm) (PySem.W.looks_findIn X hi) (fun self => PySem.W.bind_fn X self hf) (.inl rfl) h
end
def putF (f : Str) (v : V) : List (Str × V) -> List (Str × V)
  | [] => [(f, v)]
  | (g, x) :: r => if g = f then (g, v) :: r else (g, x) :: putF f v r
theorem lookup_putF (f g : Str) (v : V) : ∀ fs : List (Str × V), (putF f v fs).lookup g = if g = f then some v else fs.lookup g
  | [] => by
    show List.lookup g [(f, v)] = _
    by_cases h : g = f
    · have hb : (g == f) = true := beq_iff_eq.mpr h
      simp only [List.lookup, hb, if_pos h]
    · have hb : (g == f) = false := beq_eq_false_iff_ne.mpr h
      simp only [List.lookup, hb, if_neg h]
  | (k, x) :: r => by
    have ih := lookup_putF f g v r
    rw [show putF f v ((k, x) :: r) = (if k = f then (k, v) :: r else (k, x) :: putF f v r) from rfl]
    by_cases hk : k = f
    · rw [if_pos hk]
      by_cases h : g = k
      · have hb : (g == k) = true := beq_iff_eq.mpr h
        simp only [List.lookup, hb, if_pos (h.trans hk)]
      · have hb : (g == k) = false := beq_eq_false_iff_ne.mpr h
        simp only [List.lookup, hb, if_neg (fun e : g = f => h (e.trans hk.symm))]
    · rw [if_neg hk]
      by_cases h : g = k
      · have hb : (g == k) = true := beq_iff_eq.mpr h
        simp only [List.lookup, hb, if_neg (fun e : g = f => hk (h.symm.trans e))]
      · have hb : (g == k) = false := beq_eq_false_iff_ne.mpr h
        simp only [List.lookup, hb]
        exact ih
theorem keys_putF (f : Str) (v : V) : ∀ fs : List (Str × V), f ∈ (putF f v fs).map (·.1) /\ ∀ g, g ∈ fs.map (·.1) -> g ∈ (putF f v fs).map (·.1)
  | [] => ⟨by simp [putF], fun g h => by simp at h⟩
  | (k, x) :: r => by
    obtain ⟨i1, i2⟩ := keys_putF f v r
    rw [show putF f v ((k, x) :: r) = (if k = f then (k, v) :: r else (k, x) :: putF f v r) from rfl]
    by_cases hk : k = f
    · rw [if_pos hk]
      subst hk
      exact ⟨by simp, fun g h => by simpa using h⟩
    · rw [if_neg hk]
      refine ⟨?_, fun g h => ?_⟩
      · rw [List.map_cons]
        exact List.mem_cons_of_mem _ i1
      · rw [List.map_cons] at h ⊢
        rcases List.mem_cons.mp h with e | e
        · exact List.mem_cons.mpr (.inl e)
        · exact List.mem_cons_of_mem _ (i2 g e)
theorem length_putF (f : Str) (v : V) : ∀ fs : List (Str × V), (putF f v fs).length <= fs.length + 1
  | [] => by simp [putF]
  | (k, x) :: r => by
    have ih := length_putF f v r
    rw [show putF f v ((k, x) :: r) = (if k = f then (k, v) :: r else (k, x) :: putF f v r) from rfl]
    by_cases hk : k = f
    · rw [if_pos hk, List.length_cons, List.length_cons]; omega
    · rw [if_neg hk, List.length_cons, List.length_cons]; omega
theorem RelO.some_of {v : V} {o : Option Value} (r : RelO (some v) o) : ∃ u, o = some u /\ RelV v u := by
  cases o with
  | none => exact (show False from r).elim
  | some u => exact ⟨u, rfl, r⟩
theorem RelO.none_of {o : Option Value} (r : RelO none o) : o = none := by
  cases o with
  | none => rfl
  | some u => exact (show False from r).elim
theorem handed_of {v : V} {u : Value} (r : RelV v u) : PySem.W.handedIn u = true := by
  cases v with
  | non => cases (show u = Value.none from r); rfl
  | bl b => cases (show u = Value.bool b from r); rfl
  | int i => obtain ⟨t, e⟩ := (show ∃ t, u = Value.int i t from r); cases e; rfl
  | str x => obtain ⟨t, e⟩ := (show ∃ t, u = Value.str x t from r); cases e; rfl
  | byt b => obtain ⟨t, e⟩ := (show ∃ t, u = Value.bytes b t from r); cases e; rfl
  | flt b => obtain ⟨t, e⟩ := (show ∃ t, u = Value.float b t from r); cases e; rfl
  | ref a => cases (show u = Value.ref a from r); rfl
  | ty n => cases (show u = Value.type n from r); rfl
section
variable {P : Program} {w : World} {H H' : Hp} {h h' : Heap} {a C dx : Addr} {fs fs' : List (Str × V)}
theorem ins_get (hok : HOk P w H h) (e : H a = some (.ins C dx fs)) : ∃ mA, ObjM h a dx C mA /\ (∀ f, RelO (fs.lookup f) (mA f)) /\ PySem.Within mA (fs.map (·.1)) /\ fs.length <= 1000 /\ H dx = some (.own a) := by
  obtain ⟨d, z, ne, ob, mA, n, r, q⟩ := (show ObjOk P w H h a (.ins C dx fs) from hok a _ e)
  exact ⟨mA, ⟨ob, n, ne⟩, r, q, z, d⟩
end
structure Cls (K : PySem.W.Frag) (C : Addr) : Prop where
  pg : PySem.W.plainGet K C Str.empty = true
  hd : PySem.W.hasDictIn K C = true
  po : PySem.W.plainOver K C = true
  sa : PySem.W.findIn K (.ref C) "__setattr__" = some (some (.builtin "object.__setattr__"))
theorem Cls.get {K : PySem.W.Frag} {C : Addr} (c : Cls K C) (f : Str) : PySem.W.plainGet K C f = true := c.pg
def NoAttr (K : PySem.W.Frag) (C : Addr) (f : Str) : Prop := PySem.W.findIn K (.ref C) f = some none
theorem NoAttr.taker {K : PySem.W.Frag} {C : Addr} {f : Str} (n : NoAttr K C f) : PySem.W.takerIn K C f = some none := by
  unfold PySem.W.takerIn
  rw [show PySem.W.findIn K (.ref C) f = some none from n]
  rfl
structure Meth (K : PySem.W.Frag) (C : Addr) (m : Str) (f : Addr) : Prop where
  at_ : PySem.W.findIn K (.ref C) m = some (some (.ref f))
  fn : PySem.W.isFn K (.ref f) = true
  kp : PySem.W.keepIn K (.ref f) = true
section
variable {X : Cx} {pins : List (Addr × Obj)} {σ : St} {H : Hp} {s : Shared} {a C dx : Addr} {fs : List (Str × V)} {f : Str} {v : V} {A : Around} {E : Value -> Shared -> Prop}
theorem getattr_ok {b : Bool} {Q : Value -> Shared -> Prop} (I : Inv X pins σ H s) (e : H a = some (.ins C dx fs)) (c : Cls X.K C) (n : NoAttr X.K C f) (l : fs.lookup f = some v)
    (h : ∀ u s', Inv X pins σ H s' -> RelV v u -> Q u s') : wpAny (model X.prog X.w) A (getAttr (.ref a) f b) Q E s := by
  obtain ⟨mA, O, r, _, _, _⟩ := ins_get I.hok e
  obtain ⟨u, hu, ru⟩ := RelO.some_of (v := v) (o := mA f) (by rw [<- l]; exact r f)
  exact get_map I.kIn O (c.get f) c.hd n hu (handed_of ru) (h u _ (I.tok _) ru)
theorem getmeth_ok {m : Str} {g : Addr} {pl : Sem Bool} {Q : Value × List Value -> Shared -> Prop} (I : Inv X pins σ H s) (e : H a = some (.ins C dx fs)) (c : Cls X.K C) (k : Meth X.K C m g) (l : fs.lookup m = none)
    (h : Q (.ref g, [.ref a]) s) : wpAny (model X.prog X.w) A (getMethod (.ref a) m pl) Q E s := by
  obtain ⟨mA, O, r, _, _, _⟩ := ins_get I.hok e
  have hn : mA m = none := RelO.none_of (by rw [<- l]; exact r m)
  exact get_meth I.kIn O (c.get m) k.at_ k.fn hn h
theorem setattr_ok {y : V} {u : Value} {Q : Unit -> Shared -> Prop} (I : Inv X pins σ H s) (e : H a = some (.ins C dx fs)) (c : Cls X.K C) (n : NoAttr X.K C f) (hl : fs.length < 1000) (ry : RelV y u)
    (h : ∀ s', Inv X pins σ (upd H a (.ins C dx (putF f y fs))) s' -> Q () s') : wpAny (model X.prog X.w) A (setAttr (.ref a) f u) Q E s := by
  obtain ⟨mA, O, r, wi, _, ho⟩ := ins_get I.hok e
  have hz : (fs.map (·.1)).length <= sizeLine := by rw [List.length_map, sizeLine_eq]; omega
  refine set_map I.kIn O c.sa c.po n.taker c.hd wi hz fun h' O' sb => h _ ?_
  have hd : ∃ o, h'.get? dx = some o := let ⟨o, _, _, e', _⟩ := O'.ns; ⟨o, e'⟩
  refine I.write (x := a) (e := dx) (by rw [e]; exact True.intro) (.inr ho) (fun b q hb z => (sb.2 b hb).trans z) hd ?_
  refine ⟨by rw [upd_ne O.ne]; exact ho, ?_, O.ne, O'.obj, _, O'.ns, fun g => ?_, fun g hg => ?_⟩
  · have := length_putF f y fs; omega
  · show RelO ((putF f y fs).lookup g) (if g = f then some u else mA g)
    rw [lookup_putF]
    by_cases q : g = f
    · rw [if_pos q, if_pos q]; exact ry
    · rw [if_neg q, if_neg q]; exact r g
  · by_cases q : g = f
    · rw [q]; exact (keys_putF f y fs).1
    · refine (keys_putF f y fs).2 g (wi g fun z => hg ?_)
      show (if g = f then some u else mA g) = none
      rw [if_neg q]; exact z
theorem Inv.made (I : Inv X pins σ H s) : Inv X pins σ (upd (upd H s.heap.objs.size (.own (s.heap.objs.size + 1))) (s.heap.objs.size + 1) (.ins C s.heap.objs.size []))
    { s with heap := (s.heap.push PySem.W.emptyDict).push (PySem.W.instObj C s.heap.objs.size) } := by
  have e1 : (s.heap.push PySem.W.emptyDict).get? s.heap.objs.size = some PySem.W.emptyDict := Heap.get?_push_size s.heap rfl
  have e2 : ((s.heap.push PySem.W.emptyDict).push (PySem.W.instObj C s.heap.objs.size)).get? (s.heap.objs.size + 1) = some (PySem.W.instObj C s.heap.objs.size) := by
    have := Heap.get?_push_size (s.heap.push PySem.W.emptyDict) (o := PySem.W.instObj C s.heap.objs.size) rfl
    rwa [Heap.size_push] at this
  have e3 : (s.heap.push PySem.W.emptyDict).Ns s.heap.objs.size (fun _ => none) := ⟨PySem.W.emptyDict, #[], _, e1, rfl, (fun e he => absurd he (by simp)), fun _ => rfl⟩
  have I1 := I.laid (a := s.heap.objs.size) (o := .own (s.heap.objs.size + 1)) (h' := s.heap.push PySem.W.emptyDict) (t' := s.toks) (fun b u q => Heap.get?_push_of_some _ q) (Nat.le_refl _) ⟨_, e1⟩
  refine I1.laid (a := s.heap.objs.size + 1) (o := .ins C s.heap.objs.size []) (t' := s.toks) (fun b u q => Heap.get?_push_of_some _ q) (Nat.le_of_eq (Heap.size_push _ _)) ?_
  have ne : s.heap.objs.size ≠ s.heap.objs.size + 1 := Nat.ne_of_lt (Nat.lt_succ_self _)
  refine ⟨by rw [upd_ne ne, upd_same], Nat.zero_le _, ne, e2, fun _ => none, (Heap.Ns1.of_empty e3).at fun o q => Heap.get?_push_of_some _ q, fun _ => True.intro, fun y hy => absurd rfl hy⟩
theorem attr_of {prog : Program} {w : World} {env : Env} {e : Expr} {f : Str} {pos : Pos} {s : Shared} {Q : Value -> Shared -> Prop} (hb : attributeBase e f env (eval e env) = eval e env)
    (h : wpAny (model prog w) A (eval e env) (fun o s₁ => wpAny (model prog w) A (getAttr o f true) Q E s₁) E s) : wpAny (model prog w) A (eval (.Attribute e f pos) env) Q E s :=
  Attribute_any_ h (by rw [arm_eval_Attribute, hb])
end
def tFld (K : PySem.W.Frag) (ta : TE) (f : Str) : TE := fun σ H Q => ta σ H fun x H1 => ∃ a C dx fs v, x = .ref a /\ H1 a = some (.ins C dx fs) /\ Cls K C /\ NoAttr K C f /\ fs.lookup f = some v /\ Q v H1
def sFld (K : PySem.W.Frag) (ta tv : TE) (f : Str) : TS := fun D σ H => tv σ H fun y H1 => ta σ H1 fun x H2 => ∃ a C dx fs, x = .ref a /\ H2 a = some (.ins C dx fs) /\ Cls K C /\ NoAttr K C f /\ fs.length < 1000 /\
  D.nx σ (upd H2 a (.ins C dx (putF f y fs)))
def InOp (X : Cx) (op : Operator) (rd : V -> V -> Hp -> VK -> Prop) : Prop :=
  ∀ (pins : List (Addr × Obj)) (s : Shared) (σ : St) (H : Hp) (x y : V) (u v : Value) (Q : VK), Inv X pins σ H s -> RelV x u -> RelV y v -> rd x y H Q -> wpAny (model X.prog X.w) X.A (inplaceOp op u v) (EP X pins σ Q) X.xe s
def sFldAug (K : PySem.W.Frag) (ta tv : TE) (rd : V -> V -> Hp -> VK -> Prop) (f : Str) : TS := fun D σ H => ta σ H fun x H1 => ∃ a C dx fs v, x = .ref a /\ H1 a = some (.ins C dx fs) /\ Cls K C /\ NoAttr K C f /\ fs.lookup f = some v /\
  tv σ H1 fun y H2 => rd v y H2 fun z H3 => ∃ dx' fs', H3 a = some (.ins C dx' fs') /\ fs'.length < 1000 /\ D.nx σ (upd H3 a (.ins C dx' (putF f z fs')))
section
variable {X : Cx} {o e value : Expr} {f : Str} {pos pos' tpos : Pos} {ta tv : TE}
theorem pe_fld (he : PE X e ta) (hb : attributeBase e f X.env (eval e X.env) = eval e X.env) : PE X (.Attribute e f pos) (tFld X.K ta f) := by
  intro pins s σ H Q I h
  refine attr_of hb (thn (he pins s σ H _ I h) fun u s1 ⟨x, H1, I1, rx, a, C, dx, fs, v, ex, ea, c, n, l, q⟩ => ?_)
  subst ex
  obtain rfl : u = Value.ref a := rx
  exact getattr_ok I1 ea c n l fun u' s2 I2 ru => ⟨v, H1, I2, ru, q⟩
theorem ps_fld (ha : PE X o ta) (hv : PE X value tv) (hs : swapsWith value (some (.Attribute o f pos')) pos.line X.env = pure false) : PS X (.Assign [.Attribute o f pos'] value pos) (sFld X.K ta tv f) := by
  intro pins s σ H D I h
  refine plainObj_wpAny_Assign_Attribute (thn (hv pins s σ H _ I h) fun u s1 ⟨y, H1, I1, ry, q⟩ => thn (ha pins s1 σ H1 _ I1 q) fun ov s2 ⟨x, H2, I2, rx, a, C, dx, fs, ex, ea, c, n, l, q2⟩ => ?_) hs
  subst ex
  obtain rfl : ov = Value.ref a := rx
  exact setattr_ok I2 ea c n l ry fun s3 I3 => ⟨σ, _, I3, q2⟩
theorem ps_fldaug {op : Operator} {rd : V -> V -> Hp -> VK -> Prop} (ha : PE X o ta) (hv : PE X value tv) (hop : InOp X op rd) : PS X (.AugAssign (.Attribute o f tpos) op value pos) (sFldAug X.K ta tv rd f) := by
  intro pins s σ H D I h
  refine wpAny_AugAssign_AttributeAny (thn (ha pins s σ H _ I h) fun ov s1 ⟨x, H1, I1, rx, a, C, dx, fs, v, ex, ea, c, n, l, q⟩ => ?_)
  subst ex
  obtain rfl : ov = Value.ref a := rx
  refine getattr_ok I1 ea c n l fun u s2 I2 ru => thn (hv pins s2 σ H1 _ I2 q) fun w3 s3 ⟨y, H2, I3, ry, q3⟩ => thn (hop pins s3 σ H2 v y u w3 _ I3 ru ry q3) fun w4 s4 ⟨z, H3, I4, rz, dx', fs', ea', l', q4⟩ => ?_
  exact setattr_ok I4 ea' c n l' rz fun s5 I5 => ⟨σ, _, I5, q4⟩
def rAdd : V -> V -> Hp -> VK -> Prop := fun x y H Q => ∃ i j, x = .int i /\ y = .int j /\ Q (.int (i + j)) H
def rSub : V -> V -> Hp -> VK -> Prop := fun x y H Q => ∃ i j, x = .int i /\ y = .int j /\ Q (.int (i - j)) H
theorem in_add : InOp X .Add rAdd := by
  rintro pins s σ H x y u v Q I rx ry ⟨i, j, rfl, rfl, q⟩
  obtain ⟨t, rfl⟩ := (show ∃ t, u = Value.int i t from rx)
  obtain ⟨t', rfl⟩ := (show ∃ t', v = Value.int j t' from ry)
  exact PyProof.Rows.iadd_int ⟨.int (i + j), H, I.tok _, ⟨_, rfl⟩, q⟩
theorem in_sub : InOp X .Sub rSub := by
  rintro pins s σ H x y u v Q I rx ry ⟨i, j, rfl, rfl, q⟩
  obtain ⟨t, rfl⟩ := (show ∃ t, u = Value.int i t from rx)
  obtain ⟨t', rfl⟩ := (show ∃ t', v = Value.int j t' from ry)
  exact PyProof.Rows.isub_int ⟨.int (i - j), H, I.tok _, ⟨_, rfl⟩, q⟩
end
section
variable {X : Cx} {pins : List (Addr × Obj)} {σ : St} {H : Hp} {s : Shared} {A : Around} {E : Value -> Shared -> Prop} {Q : Value -> Shared -> Prop} {c : Value} {b : Bool}
end
end L2
namespace L2
open PySem PySem.Spec PyProof.Rows
structure Room (k : Nat) (A : Around) : Prop where
  hd : A.handled = none
  dp : A.depth + 3 * k + 5 < recursionLimit
  un : A.units + 16 * k + 200 < cLine
theorem Room.mono {j k : Nat} {A : Around} (r : Room k A) (h : j <= k) : Room j A := ⟨r.hd, by have := r.dp; omega, by have := r.un; omega⟩
theorem Room.deeper {k : Nat} {A : Around} (r : Room (k + 1) A) (env : Env) : Room k (A.deeper env) :=
  ⟨r.hd, by have := r.dp; show A.depth + 1 + 3 * k + 5 < _; omega, by have := r.un; show A.units + 3 + 16 * k + 200 < _; omega⟩
theorem make_depth {A : Around} {C : Addr} {us : List Value} {kw : List (Str × Value)} : (A.under (.builtin "type.__call__" ⟨.ref C :: us, kw⟩)).depth = A.depth + 1 := by
  first | rfl | simp [Around.under, Code.weight, Code.isCreation, Code.isGuard, Code.isCaller, Code.frames, Code.isFrame, guardIds]
theorem make_units {A : Around} {C : Addr} {us : List Value} {kw : List (Str × Value)} : (A.under (.builtin "type.__call__" ⟨.ref C :: us, kw⟩)).units = A.units + 1 := by
  first | rfl | simp [Around.under, Code.cUnits, Code.frames, Code.isFrame]
theorem Room.make {k : Nat} {A : Around} (r : Room (k + 1) A) (C : Addr) (us : List Value) (kw : List (Str × Value)) : Room k (A.under (.builtin "type.__call__" ⟨.ref C :: us, kw⟩)) :=
  ⟨r.hd, by have := r.dp; rw [make_depth]; omega, by have := r.un; rw [make_units]; omega⟩
theorem Room.depth {k : Nat} {A : Around} (r : Room k A) : A.depth < recursionLimit := by have := r.dp; omega
theorem Room.units {k : Nat} {A : Around} (r : Room k A) : A.units + 64 < cLine := by have := r.un; omega
def tNil : TA := fun _ H Q => Q [] H
def tCons (ta : TE) (tr : TA) : TA := fun σ H Q => ta σ H fun x H1 => tr σ H1 fun xs H2 => Q (x :: xs) H2
section
variable {X : Cx} {e : Expr} {es : List Expr} {te : TE} {t : TA} {pos : Pos}
theorem pa_nil : PA X [] tNil := fun _ _ _ _ H Q I h => Calls.spliced_nil ⟨[], H, I, .nil, h⟩
theorem pa_cons (ha : PE X e te) (hr : PA X es t) (hs : starEach (e :: es) X.env = (false, eval e X.env) :: starEach es X.env := by rfl) : PA X (e :: es) (tCons te t) := by
  intro pos pins s σ H Q I h
  rw [hs]
  show wpAny _ _ (spliced ((false, eval e X.env) :: backTo pos (starEach es X.env))) _ _ s
  refine Calls.spliced_cons (thn (ha pins s σ H _ I h) fun u s1 ⟨x, H1, I1, r1, q1⟩ => ?_)
  exact thn (hr pos pins s1 σ H1 _ I1 q1) fun us s2 ⟨xs, H2, I2, r2, q2⟩ => ⟨x :: xs, H2, I2, .cons r1 r2, q2⟩
def tTup (t : TA) : TE := fun σ H Q => t σ H fun xs H1 => xs.length <= sizeLine /\ ∀ p, H1 p = none -> Q (.ref p) (upd H1 p (.tup xs))
def tLst (t : TA) : TE := fun σ H Q => t σ H fun xs H1 => xs.length <= sizeLine /\ ∀ p, H1 p = none -> Q (.ref p) (upd H1 p (.lst xs))
theorem pe_tup {x1} (h : PA X es t) : PE X (.Tuple es x1 pos) (tTup t) := by
  intro pins s σ H Q I hq
  refine wpAny_Tuple_spliced (thn (h pos pins s σ H _ I hq) fun us s1 ⟨xs, H1, I1, r, z, q⟩ => ⟨by rw [<- r.length]; exact z, ?_⟩)
  have hf : H1 s1.heap.objs.size = none := I1.hok.fresh (Nat.le_refl _)
  refine ⟨.ref s1.heap.objs.size, upd H1 s1.heap.objs.size (.tup xs), I1.laid (t' := s1.toks) (fun b u e => Heap.get?_push_of_some _ e) (Nat.le_refl _) ?_, rfl, q _ hf⟩
  exact ⟨z, us, r, ⟨_, Heap.get?_push_size _ rfl, rfl, _, rfl⟩⟩
theorem pe_lst (h : PA X es t) : PE X (.List es pos) (tLst t) := by
  intro pins s σ H Q I hq
  refine wpAny_List_spliced (thn (h pos pins s σ H _ I hq) fun us s1 ⟨xs, H1, I1, r, z, q⟩ => ⟨by rw [<- r.length]; exact z, ?_⟩)
  have hf : H1 s1.heap.objs.size = none := I1.hok.fresh (Nat.le_refl _)
  refine ⟨.ref s1.heap.objs.size, upd H1 s1.heap.objs.size (.lst xs), I1.laid (t' := s1.toks) (fun b u e => Heap.get?_push_of_some _ e) (Nat.le_refl _) ?_, rfl, q _ hf⟩
  exact ⟨z, us, 0, r, Heap.get?_push_size _ rfl⟩
end
abbrev Sp := List V -> Hp -> VK -> XK -> Prop
abbrev CXT := List Env -> Hp -> Shared -> XK -> Value -> Shared -> Prop
structure Env0 (P : Program) (w : World) (K : PySem.W.Frag) (mg : Str -> Option Value) (base : Heap) (A : Around) (outer : List Env) (s : Shared) (H : Hp) : Prop where
  frames : A.frames = some outer
  mod : Mod K mg base
  bs : ∀ b o, base.get? b = some o -> s.heap.get? b = some o /\ H b = none
  bsz : base.objs.size <= s.heap.objs.size
  funs : s.heap.FunFrames base outer
  frf : ∀ b ∈ frs outer, H b = none
  hok : HOk P w H s.heap
  bare : AllBare s.gens
def CE (outer : List Env) (P : Program) (w : World) (H : Hp) (s : Shared) (Q : VK) (u : Value) (s' : Shared) : Prop :=
  ∃ v H', s'.os = s.os /\ AllBare s'.gens /\ Un (frs outer) [] H H' s.heap s'.heap /\ HOk P w H' s'.heap /\ RelV v u /\ Q v H'
def CR (CX : CXT) (outer : List Env) (P : Program) (w : World) (H : Hp) (s : Shared) (Q : VK) (E : XK) (r : Result) (s' : Shared) : Prop :=
  match r with
  | .ok (.ret u) => CE outer P w H s Q u s'
  | .ok _ => False
  | .error e => CX outer H s E e s'
structure FnOk (P : Program) (w : World) (K : PySem.W.Frag) (mg : Str -> Option Value) (base : Heap) (CX : CXT) (k : Nat) (f : Addr) (fd : FuncData) (ps : List Str) (sp : Sp) : Prop where
  len : ∀ vs H Q E, sp vs H Q E -> vs.length = ps.length
  run : ∀ (A : Around) (outer : List Env) (s : Shared) (H : Hp) (args : Args) (us : List Value) (vs : List V) (Q : VK) (E : XK), Room k A -> Env0 P w K mg base A outer s H -> BindsTo s fd args (ps.zip us) -> Vals vs us -> sp vs H Q E ->
    codeAny (model P w) A (.call (.ref f) args) (CR CX outer P w H s Q E) s
theorem Env0.make {P : Program} {w : World} {K : PySem.W.Frag} {mg : Str -> Option Value} {base : Heap} {A : Around} {outer : List Env} {s : Shared} {H : Hp} (e : Env0 P w K mg base A outer s H) (C : Addr) (us : List Value) (kw : List (Str × Value)) :
    Env0 P w K mg base (A.under (.builtin "type.__call__" ⟨.ref C :: us, kw⟩)) outer s H := ⟨by first | exact e.frames | (simpa [Around.under, Code.envs, Code.isFrame, pushEnvs] using e.frames), e.mod, e.bs, e.bsz, e.funs, e.frf, e.hok, e.bare⟩
section
variable {X : Cx} {pins : List (Addr × Obj)} {σ : St} {H : Hp} {s s' : Shared}
theorem Inv.env0 (I : Inv X pins σ H s) : Env0 X.prog X.w X.K X.mg X.base X.A X.stack s H :=
  ⟨I.ok.frames, I.ok.mod, I.bs, Nat.le_trans I.ok.bsz I.sz, I.stack, I.stkFree, I.hok, I.bare⟩
theorem Inv.after {Q : VK} {u : Value} (I : Inv X pins σ H s) (h : CE X.stack X.prog X.w H s Q u s') : EP X pins σ Q u s' := by
  obtain ⟨v, H', os, bare, un, hok, r, q⟩ := h
  obtain ⟨hh, g, d, t, os'⟩ := s'
  obtain rfl : os' = s.os := os
  exact ⟨v, H', I.call (h' := hh) (g' := g) (d' := d) (t' := t) (ch := []) un hok bare (fun b z => absurd z (by simp)), r, q⟩
end
def tCall (sp : Sp) (dvs : List V) (E : XK) (t : TA) : TE := fun σ H Q => t σ H fun vs H1 => sp (vs ++ dvs) H1 Q E
def tMeth (C : Addr) (m : Str) (sp : Sp) (dvs : List V) (E : XK) (ta : TE) (t : TA) : TE := fun σ H Q => ta σ H fun x H1 => ∃ a dx fs, x = .ref a /\ H1 a = some (.ins C dx fs) /\ fs.lookup m = none /\
  t σ H1 fun vs H2 => sp (x :: (vs ++ dvs)) H2 Q E
def tMake (C : Addr) (sp : Sp) (dvs : List V) (E : XK) (t : TA) : TE := fun σ H Q => t σ H fun vs H1 => ∀ x dx, H1 x = none -> H1 dx = none -> dx ≠ x ->
  sp (.ref x :: (vs ++ dvs)) (upd (upd H1 dx (.own x)) x (.ins C dx [])) (fun v H2 => v = .non /\ Q (.ref x) H2) E
def Binds (K : PySem.W.Frag) (fd : FuncData) (ps : List Str) (ds : List Value) : Prop :=
  ∀ (s : Shared) (us : List Value), K.In s.heap -> (us ++ ds).length = ps.length -> BindsTo s fd ⟨us, []⟩ (ps.zip (us ++ ds))
theorem Binds.all {K : PySem.W.Frag} {fd : FuncData} {ps : List Str} (h : ∀ us : List Value, us.length = ps.length -> bindArgs fd ⟨us, []⟩ = pure (ps.zip us)) : Binds K fd ps [] := fun s us _ hl => by
  rw [List.append_nil] at hl ⊢
  exact .of_eq (h us hl)
def Passes (CX : CXT) (X : Cx) (E : XK) : Prop := ∀ (pins : List (Addr × Obj)) (σ : St) (H : Hp) (s : Shared) (e : Value) (s' : Shared), Inv X pins σ H s -> CX X.stack H s E e s' -> X.xe e s'
section
variable {X : Cx} {CX : CXT} {k : Nat} {f C : Addr} {fd : FuncData} {ps : List Str} {sp : Sp} {dvs : List V} {ds : List Value} {E : XK} {x m : Str} {p pos apos : Pos} {e o : Expr} {es : List Expr} {ta : TE} {t : TA}
theorem run_fn {pins : List (Addr × Obj)} {σ : St} {H : Hp} {s : Shared} {Q : VK} {us : List Value} {vs : List V} (F : FnOk X.prog X.w X.K X.mg X.base CX k f fd ps sp) (hr : Room k X.A) (hb : Binds X.K fd ps ds) (hd : Vals dvs ds) (hx : Passes CX X E)
    (I : Inv X pins σ H s) (r : Vals vs us) (h : sp (vs ++ dvs) H Q E) : wpAny (model X.prog X.w) X.A (call (.ref f) us) (EP X pins σ Q) X.xe s := by
  have r2 : Vals (vs ++ dvs) (us ++ ds) := r.append hd
  have hl : (us ++ ds).length = ps.length := by rw [<- r2.length]; exact F.len _ _ _ _ h
  refine wpAny_call (codeAny_mono (F.run X.A X.stack s H ⟨us, []⟩ (us ++ ds) (vs ++ dvs) Q E hr I.env0 (hb s us I.kIn hl) r2 h) fun r s' hq => ?_)
  cases r with
  | error e => exact hx pins σ H s e s' I hq
  | ok fl =>
    cases fl with
    | ret u => exact I.after hq
    | next => exact False.elim hq
    | brk => exact False.elim hq
    | cont => exact False.elim hq
theorem pe_call (F : FnOk X.prog X.w X.K X.mg X.base CX k f fd ps sp) (hr : Room k X.A) (hg : Gl X x) (hm : X.mg x = some (.ref f)) (hk : PySem.W.keepIn X.K (.ref f) = true) (hb : Binds X.K fd ps ds) (hd : Vals dvs ds) (hx : Passes CX X E)
    (ha : PA X (e :: es) t) (hdb : (x == ("__debug__" : Str)) = false := by decide) (he : starEach (e :: es) X.env = (false, eval e X.env) :: starEach es X.env := by rfl) (hpl : (backTo pos (starEach es X.env)).any (·.1) = false := by rfl) :
    PE X (.Call (.Name x p) (e :: es) [] pos) (tCall sp dvs E t) := by
  intro pins s σ H Q I h
  refine wpAny_Call_Name_kw (ld_glob I hg hm ?_ hdb)
  refine PySem.W.callWith_K (h₀ := X.base) I.ok.mod.kin hk (thn (ha pos pins s σ H _ I h) fun us s1 ⟨vs, H1, I1, r, q⟩ => ⟨I1.kIn, ?_⟩) he hpl
  exact run_fn F hr hb hd hx I1 r q
theorem pe_meth {pl : Sem Bool} (he : PE X o ta) (c : Cls X.K C) (hm : Meth X.K C m f) (F : FnOk X.prog X.w X.K X.mg X.base CX k f fd ps sp) (hr : Room k X.A) (hb : Binds X.K fd ps ds) (hd : Vals dvs ds) (hx : Passes CX X E) (ha : PA X (e :: es) t)
    (hst : starEach (e :: es) X.env = (false, eval e X.env) :: starEach es X.env := by rfl) (hpl : (backTo pos (starEach es X.env)).any (·.1) = false := by rfl)
    (ht : eval (.Call (.Attribute o m apos) (e :: es) [] pos) X.env = (do
      let ov <- eval o X.env
      standAt apos.atName
      let (f, first) <- holding [ov] (getMethod ov m pl)
      callWith pos f first (backTo pos (starEach (e :: es) X.env)) (backToKw pos (keywordEach [] X.env))) := by rfl) :
    PE X (.Call (.Attribute o m apos) (e :: es) [] pos) (tMeth C m sp dvs E ta t) := by
  intro pins s σ H Q I h
  refine PySem.W.methodCall_KW (pl := pl) (thn (he pins s σ H _ I h) fun u s1 ⟨x, H1, I1, rx, a, dx, fs, ex, ea, l, q⟩ => ?_) ht
  subst ex
  obtain rfl : u = Value.ref a := rx
  refine getmeth_ok I1 ea c hm l ?_
  refine PySem.W.callWith_K (first := [.ref a]) (h₀ := X.base) I.ok.mod.kin hm.kp (thn (ha pos pins s1 σ H1 _ I1 q) fun us s2 ⟨vs, H2, I2, r, q2⟩ => ⟨I2.kIn, ?_⟩) hst hpl
  exact run_fn (us := .ref a :: us) (vs := .ref a :: vs) F hr hb hd hx I2 (.cons rfl r) q2
theorem pe_meth0 {pl : Sem Bool} (he : PE X o ta) (c : Cls X.K C) (hm : Meth X.K C m f) (F : FnOk X.prog X.w X.K X.mg X.base CX k f fd ps sp) (hr : Room k X.A) (hb : Binds X.K fd ps ds) (hd : Vals dvs ds) (hx : Passes CX X E)
    (ht : eval (.Call (.Attribute o m apos) [] [] pos) X.env = (do
      let ov <- eval o X.env
      standAt apos.atName
      let (f, first) <- holding [ov] (getMethod ov m pl)
      callWith pos f first (backTo pos (starEach [] X.env)) (backToKw pos (keywordEach [] X.env))) := by rfl) :
    PE X (.Call (.Attribute o m apos) [] [] pos) (tMeth C m sp dvs E ta tNil) := by
  intro pins s σ H Q I h
  refine PySem.W.methodCall_KW (pl := pl) (thn (he pins s σ H _ I h) fun u s1 ⟨x, H1, I1, rx, a, dx, fs, ex, ea, l, q⟩ => ?_) ht
  subst ex
  obtain rfl : u = Value.ref a := rx
  refine getmeth_ok I1 ea c hm l ?_
  exact PySem.W.callWith_K0 (first := [.ref a]) I1.kIn hm.kp (run_fn (us := [.ref a]) (vs := [.ref a]) F hr hb hd hx I1 (.cons rfl .nil) q)
structure Mk (K : PySem.W.Frag) (C f : Addr) : Prop where
  makes : PySem.W.makesIn K C = true
  init : PySem.W.findIn K (.ref C) "__init__" = some (some (.ref f))
  fn : PySem.W.isFn K (.ref f) = true
  kp : PySem.W.keepIn K (.ref C) = true
theorem run_make {pins : List (Addr × Obj)} {σ : St} {H : Hp} {s : Shared} {Q : VK} {us : List Value} {vs : List V} (M : Mk X.K C f) (F : FnOk X.prog X.w X.K X.mg X.base CX k f fd ps sp) (hr : Room (k + 1) X.A) (hb : Binds X.K fd ps ds) (hd : Vals dvs ds)
    (hx : Passes CX X E) (I : Inv X pins σ H s) (r : Vals vs us)
    (h : ∀ x dx, H x = none -> H dx = none -> dx ≠ x -> sp (.ref x :: (vs ++ dvs)) (upd (upd H dx (.own x)) x (.ins C dx [])) (fun v H2 => v = .non /\ Q (.ref x) H2) E) :
    wpAny (model X.prog X.w) X.A (call (.ref C) us) (EP X pins σ Q) X.xe s := by
  have hq := h (s.heap.objs.size + 1) s.heap.objs.size (I.hok.fresh (Nat.le_succ _)) (I.hok.fresh (Nat.le_refl _)) (Nat.ne_of_lt (Nat.lt_succ_self _))
  have I2 := Inv.made (C := C) I
  have r2 : Vals (V.ref (s.heap.objs.size + 1) :: (vs ++ dvs)) (Value.ref (s.heap.objs.size + 1) :: (us ++ ds)) := .cons rfl (r.append hd)
  have hl : (Value.ref (s.heap.objs.size + 1) :: us ++ ds).length = ps.length := by
    have e := r2.length
    rw [F.len _ _ _ _ hq] at e
    exact e.symm
  refine wpAny_call (make_map (f := f) I.kIn M.makes M.init (beq_iff_eq.mp M.fn) (codeAny_mono (F.run _ X.stack _ _ ⟨Value.ref (s.heap.objs.size + 1) :: us, []⟩ (Value.ref (s.heap.objs.size + 1) :: (us ++ ds)) _ _ E (hr.make C us [])
    (I2.env0.make C us []) (hb _ (Value.ref (s.heap.objs.size + 1) :: us) I2.kIn hl) r2 hq) fun r s' hq' => ?_))
  cases r with
  | error e => exact hx pins σ _ _ e s' I2 hq'
  | ok fl =>
    cases fl with
    | ret u =>
      obtain ⟨v, H', I3, rv, ev, q3⟩ := I2.after hq'
      subst ev
      exact ⟨rv, ⟨V.ref (s.heap.objs.size + 1), H', I3, rfl, q3⟩⟩
    | next => exact False.elim hq'
    | brk => exact False.elim hq'
    | cont => exact False.elim hq'
theorem pe_make (M : Mk X.K C f) (F : FnOk X.prog X.w X.K X.mg X.base CX k f fd ps sp) (hr : Room (k + 1) X.A) (hg : Gl X x) (hm : X.mg x = some (.ref C)) (hb : Binds X.K fd ps ds) (hd : Vals dvs ds) (hx : Passes CX X E)
    (ha : PA X (e :: es) t) (hdb : (x == ("__debug__" : Str)) = false := by decide) (he : starEach (e :: es) X.env = (false, eval e X.env) :: starEach es X.env := by rfl) (hpl : (backTo pos (starEach es X.env)).any (·.1) = false := by rfl) :
    PE X (.Call (.Name x p) (e :: es) [] pos) (tMake C sp dvs E t) := by
  intro pins s σ H Q I h
  refine wpAny_Call_Name_kw (ld_glob I hg hm ?_ hdb)
  refine PySem.W.callWith_K (h₀ := X.base) I.ok.mod.kin M.kp (thn (ha pos pins s σ H _ I h) fun us s1 ⟨vs, H1, I1, r, q⟩ => ⟨I1.kIn, ?_⟩) he hpl
  exact run_make M F hr hb hd hx I1 r q
end
section
variable {X : Cx} {CX : CXT} {k : Nat} {f C : Addr} {fd : FuncData} {ps ks : List Str} {sp : Sp} {E : XK} {x m : Str} {p pos apos kpos : Pos} {e o : Expr} {es : List Expr} {kws : List Keyword} {te ta : TE} {t tk : TA} {nm : Option Str}
variable {g : List Value -> List Value -> List Value} {gV : List V -> List V -> List V}
end
structure FnScope (N P : List Str) (sc : Scope) : Prop where
  kind : sc.kind = .function
  co : sc.isCoroutine = false
  gen : sc.isGenerator = false
  nd : N.Nodup
  pre : N.take P.length = P
  par : ∀ x ∈ P, sc.names.lookup x = some .local \/ sc.names.lookup x = some .cell
  nofree : ∀ y ∈ sc.names, y.2 ≠ .free
theorem bindL_out {kindOf : Str -> Option NameKind} {x : Str} : ∀ {binds : List (Str × Value)} {m : Str -> Option Value}, (∀ v, (x, v) ∉ binds) -> bindL kindOf binds m x = m x
  | [], _, _ => rfl
  | (n, v) :: r, m, h => by
    unfold bindL
    rw [bindL_out fun w hw => h w (List.mem_cons_of_mem _ hw)]
    split
    · have : x ≠ n := by rintro rfl; exact h v List.mem_cons_self
      simp [this]
    · rfl
theorem bindC_out {kindOf : Str -> Option NameKind} {x : Str} : ∀ {binds : List (Str × Value)} {m : Str -> Option Value}, (∀ v, (x, v) ∉ binds) -> bindC kindOf binds m x = m x
  | [], _, _ => rfl
  | (n, v) :: r, m, h => by
    unfold bindC
    rw [bindC_out fun w hw => h w (List.mem_cons_of_mem _ hw)]
    split
    · rfl
    · have : x ≠ n := by rintro rfl; exact h v List.mem_cons_self
      simp [this]
theorem bindL_get {kindOf : Str -> Option NameKind} {x : Str} {v : Value} : ∀ {P : List Str} {vs : List Value} {i : Nat} {m : Str -> Option Value}, P.Nodup -> P[i]? = some x -> vs[i]? = some v -> kindOf x = some .local ->
    bindL kindOf (P.zip vs) m x = some v
  | [], _, _, _, _, h, _, _ => by simp at h
  | _ :: _, [], _, _, _, _, h, _ => by simp at h
  | p :: P, w :: vs, 0, m, nd, h1, h2, hk => by
    simp at h1 h2; subst h1; subst h2
    show bindL kindOf ((p, w) :: P.zip vs) m p = _
    unfold bindL
    rw [bindL_out fun v hv => (List.nodup_cons.mp nd).1 (List.of_mem_zip hv).1, if_pos hk]
    simp
  | p :: P, w :: vs, i + 1, m, nd, h1, h2, hk => by
    show bindL kindOf ((p, w) :: P.zip vs) m x = _
    unfold bindL
    exact bindL_get (i := i) (List.nodup_cons.mp nd).2 (by simpa using h1) (by simpa using h2) hk
theorem bindC_get {kindOf : Str -> Option NameKind} {x : Str} {v : Value} : ∀ {P : List Str} {vs : List Value} {i : Nat} {m : Str -> Option Value}, P.Nodup -> P[i]? = some x -> vs[i]? = some v -> kindOf x ≠ some .local ->
    bindC kindOf (P.zip vs) m x = some v
  | [], _, _, _, _, h, _, _ => by simp at h
  | _ :: _, [], _, _, _, _, h, _ => by simp at h
  | p :: P, w :: vs, 0, m, nd, h1, h2, hk => by
    simp at h1 h2; subst h1; subst h2
    show bindC kindOf ((p, w) :: P.zip vs) m p = _
    unfold bindC
    rw [bindC_out fun v hv => (List.nodup_cons.mp nd).1 (List.of_mem_zip hv).1, if_neg hk]
    simp
  | p :: P, w :: vs, i + 1, m, nd, h1, h2, hk => by
    show bindC kindOf ((p, w) :: P.zip vs) m x = _
    unfold bindC
    exact bindC_get (i := i) (List.nodup_cons.mp nd).2 (by simpa using h1) (by simpa using h2) hk
def start (N : List Str) (vs : List V) : St := vs.map some ++ List.replicate (N.length - vs.length) none
def cxOf (CX : CXT) (P : Program) (w : World) (K : PySem.W.Frag) (mg : Str -> Option Value) (base : Heap) (N : List Str) (qual : Str) (scope : Scope) (f : Addr) (cd : Value) (A : Around) (outer : List Env) (s : Shared) (H : Hp) (E : XK) : Cx where
  prog := P
  w := w
  K := K
  mg := mg
  base := base
  A := A.deeper (envOfC qual scope s.heap.objs.size f cd)
  N := N
  s_0 := s
  H_0 := H
  env := envOfC qual scope s.heap.objs.size f cd
  outer := outer
  stack := envOfC qual scope s.heap.objs.size f cd :: outer
  ex := []
  calm := true
  fn := fun _ => true
  pn := []
  xe := fun e s' => wpAny (model P w) (A.deeper (envOfC qual scope s.heap.objs.size f cd)) (leaving (envOfC qual scope s.heap.objs.size f cd) e) (fun _ s'' => CX outer H s E e s'') (fun e' s'' => CX outer H s E e' s'') s'
theorem cell_has {sc : Scope} {n : Nat} {x : Str} (h : sc.names.lookup x = some .cell) : ∃ c, (cellsFrom n sc.names []).lookup x = some c := by
  have q := PySem.W.cellsFrom_some sc.names n [] (.inl h)
  exact Option.isSome_iff_exists.mp q
theorem inv_start {CX : CXT} {P : Program} {w : World} {K : PySem.W.Frag} {mg : Str -> Option Value} {base : Heap} {N ps : List Str} {qual : Str} {scope : Scope} {f : Addr} {cd : Value} {A : Around} {outer : List Env} {s s1 : Shared} {H : Hp} {E : XK} {us : List Value} {vs : List V}
    (S : FnScope N ps scope) (hd : A.handled = none) (e0 : Env0 P w K mg base A outer s H) (hl : vs.length = ps.length) (r : Vals vs us)
    (x : InCallC s s.heap.objs.size (bindL (envOfC qual scope s.heap.objs.size f cd).kindOf (ps.zip us) fun _ => none) (cellsFrom (s.heap.objs.size + 1) scope.names []) (bindC (envOfC qual scope s.heap.objs.size f cd).kindOf (ps.zip us) fun _ => none) s1) :
    Inv (cxOf CX P w K mg base N qual scope f cd A outer s H E) [] (start N vs) H s1 := by
  have hpl : ps.length <= N.length := by have := congrArg List.length S.pre; rw [List.length_take] at this; omega
  obtain ⟨h1, tk, rfl, hk⟩ := x.done
  have noA : ∀ b : Addr, b ∉ (cxOf CX P w K mg base N qual scope f cd A outer s H E).ex := fun b z => absurd (show b ∈ ([] : List Addr) from z) (by simp)
  refine ⟨⟨e0.mod, S.kind, rfl, rfl, Nat.le_refl _, fun y z c h1 h2 => ?_, fun y hy => ?_, fun y c _ h => ?_, fun _ => hd, Around.frames_deeper e0.frames, .inr ⟨rfl, rfl⟩, fun b z => absurd z (noA b), e0.bs, e0.bsz, fun b _ _ => noA b, fun b z => absurd z (noA b), e0.funs, e0.frf⟩,
    rfl, e0.bare, Un.kept hk, ⟨_, x.toInCall.ns, fun i y v h1 h2 h3 => ?_⟩, fun y c h => ⟨_, x.cell y c h⟩, e0.hok.fresh (Nat.le_refl _), fun y c h => ?_, fun p hp => absurd (show p ∈ ([] : List (Addr × Obj)) from hp) (by simp), e0.hok.kept hk, ?_⟩
  · exact name_of_addr x.apart (PySem.mem_of_lookup h1) (PySem.mem_of_lookup h2)
  · have hy : scope.names.lookup y = some .cell \/ scope.names.lookup y = some .free := hy
    rcases hy with hy | hy
    · exact cell_has hy
    · exact absurd rfl (S.nofree _ (PySem.mem_of_lookup hy))
  · exact Nat.le_of_lt (x.above y c (PySem.mem_of_lookup h))
  · have hi : i < vs.length := by
      unfold start at h2
      by_cases hi : i < vs.length
      · exact hi
      · rw [List.getElem?_append_right (by simpa using hi)] at h2
        rw [List.getElem?_replicate] at h2
        split at h2 <;> cases h2
    have ha : vs[i]? = some v := by
      unfold start at h2
      rw [List.getElem?_append_left (by simpa using hi), List.getElem?_map] at h2
      cases e : vs[i]? with
      | none => rw [e] at h2; cases h2
      | some a => rw [e] at h2; cases h2; rfl
    obtain ⟨u, hu, rv⟩ := r.get ha
    have hp : ps[i]? = some y := by
      rw [<- S.pre, List.getElem?_take_of_lt (by omega)]; exact h1
    have ndP : ps.Nodup := by rw [<- S.pre]; exact S.nd.sublist (List.take_sublist _ _)
    refine ⟨u, rv, ?_⟩
    rcases S.par y (List.mem_of_getElem? hp) with k | k
    · exact .inl ⟨k, bindL_get ndP hp hu k⟩
    · obtain ⟨c, e⟩ := cell_has (n := s.heap.objs.size + 1) k
      refine .inr ⟨.inl k, c, e, ?_⟩
      have q := x.cell y c e
      rw [bindC_get ndP hp hu (by show scope.names.lookup y ≠ _; rw [k]; decide)] at q
      exact q
  · exact e0.hok.fresh (Nat.le_of_lt (x.above y c (PySem.mem_of_lookup h)))
  · unfold start
    show _ = N.length
    rw [List.length_append, List.length_map, List.length_replicate]
    omega
theorem fn_of {CX : CXT} {P : Program} {w : World} {K : PySem.W.Frag} {mg : Str -> Option Value} {base : Heap} {k : Nat} {f : Addr} {name qual : Str} {params : Arguments} {body : List Stmt} {scope : Scope} {dV kV doc pm cdv ct oc : Value} {an od : Option Addr}
    {osl : Array (Option Value)} {N ps : List Str} {sp : Sp} (lk : K.lookup f = some ⟨oc, od, .func (PySem.W.fnOf name qual params body scope dV kV doc pm an cdv ct), osl⟩) (hcd : PySem.W.codeIn K cdv qual = true) (S : FnScope N ps scope)
    (len : ∀ vs H Q E, sp vs H Q E -> vs.length = ps.length)
    (hbody : ∀ (A : Around) (outer : List Env) (s : Shared) (H : Hp) (vs : List V) (Q : VK) (E : XK), Room k (A.deeper (envOfC qual scope s.heap.objs.size f cdv)) -> sp vs H Q E ->
      ∃ t, PSs (cxOf CX P w K mg base N qual scope f cdv A outer s H E) body t /\ t { nx := fun _ H' => Q .non H', rt := Q } (start N vs) H) :
    FnOk P w K mg base CX (k + 1) f (PySem.W.fnOf name qual params body scope dV kV doc pm an cdv ct) ps sp := by
  refine ⟨len, fun A outer s H args us vs Q E hr e0 hb r hsp => ?_⟩
  have hl := len _ _ _ _ hsp
  have KX : K.In s.heap := e0.mod.kin.keeps fun b o e => (e0.bs b o e).1
  have lim : s.heap.NoLimit := e0.mod.nolimit.keeps fun b o e => (e0.bs b o e).1
  have hkind : ∀ y ∈ ps.zip us, scope.names.lookup y.1 = some .local \/ (scope.names.lookup y.1 = some .cell /\ ((cellsFrom (s.heap.objs.size + 1) scope.names []).lookup y.1).isSome = true) := fun ⟨n, v⟩ hy => by
    rcases S.par n (List.of_mem_zip hy).1 with q | q
    · exact .inl q
    · exact .inr ⟨q, PySem.W.cellsFrom_some _ _ _ (.inl q)⟩
  refine codeAny_call_function hr.depth (KX _ _ lk) rfl S.co S.gen rfl (PySem.W.codeRec_of KX hcd) (hb _ _ _ _ ?_)
  refine wpAny_newFunctionEnv_cells S.kind hkind fun env he s1 x => ?_
  subst he
  refine ⟨lim.keeps x.toInCall.keep, codeAny_func ?_⟩
  obtain ⟨t, ht, hq⟩ := hbody A outer s H vs Q E (hr.deeper _) hsp
  have I : Inv (cxOf CX P w K mg base N qual scope f cdv A outer s H E) [] (start N vs) H s1 := inv_start S hr.hd e0 hl r x
  refine wpAny_mono (ht [] s1 (start N vs) H _ I hq) (fun fl s' hs => ?_) fun e s' hs => hs
  have fin : ∀ {σ' : St} {H' : Hp} {v : V} {u : Value}, Inv (cxOf CX P w K mg base N qual scope f cdv A outer s H E) [] σ' H' s' -> RelV v u -> Q v H' -> CE outer P w H s Q u s' :=
    fun {σ' H' v u} J rv q => ⟨v, H', J.os, J.bare, J.base, J.hok, rv, q⟩
  cases fl with
  | ret u =>
    obtain ⟨v, σ', H', J, rv, q⟩ := hs
    exact fin J rv q
  | next =>
    obtain ⟨σ', H', J, q⟩ := hs
    exact fin (v := V.non) (u := Value.none) J rfl q
  | brk =>
    obtain ⟨_, _, _, q⟩ := hs
    exact False.elim q
  | cont =>
    obtain ⟨_, _, _, q⟩ := hs
    exact False.elim q
end L2
namespace L2
open PySem PySem.Spec PyProof.Rows
section
variable {X : Cx} {x : Str} {p pos : Pos} {e : Expr} {es : List Expr} {t : TA} {id T : String} {r : List V -> Hp -> VK -> Prop}
def tCB (r : List V -> Hp -> VK -> Prop) (t : TA) : TE := fun σ H Q => t σ H fun vs H1 => r vs H1 Q
theorem pe_callB (hc : CallR X (.builtin id) r) (hg : Gl X x) (hm : X.mg x = none) (hv : bootBuiltins x = some (.builtin id)) (ha : PA X (e :: es) t) (hn : x ≠ "__name__" := by decide) (hdb : (x == ("__debug__" : Str)) = false := by decide)
    (he : starEach (e :: es) X.env = (false, eval e X.env) :: starEach es X.env := by rfl) (hpl : (backTo pos (starEach es X.env)).any (·.1) = false := by rfl) : PE X (.Call (.Name x p) (e :: es) [] pos) (tCB r t) := by
  intro pins s σ H Q I h
  refine wpAny_Call_Name_kw (ld_blt I hg hm hv ?_ hn hdb)
  exact PyProof.Rows.callWith_builtin1 (thn (ha pos pins s σ H _ I h) fun us s1 ⟨vs, H1, I1, r1, q1⟩ => hc pins s1 σ H1 vs us Q I1 r1 q1) he hpl
theorem pe_callTy (hc : CallR X (.type T) r) (hg : Gl X x) (hm : X.mg x = none) (hv : bootBuiltins x = some (.type T)) (ha : PA X (e :: es) t) (hn : x ≠ "__name__" := by decide) (hdb : (x == ("__debug__" : Str)) = false := by decide)
    (he : starEach (e :: es) X.env = (false, eval e X.env) :: starEach es X.env := by rfl) (hpl : (backTo pos (starEach es X.env)).any (·.1) = false := by rfl) : PE X (.Call (.Name x p) (e :: es) [] pos) (tCB r t) := by
  intro pins s σ H Q I h
  refine wpAny_Call_Name_kw (ld_blt I hg hm hv ?_ hn hdb)
  exact PyProof.Rows.callWith_type1 (thn (ha pos pins s σ H _ I h) fun us s1 ⟨vs, H1, I1, r1, q1⟩ => hc pins s1 σ H1 vs us Q I1 r1 q1) he hpl
end
end L2
namespace HT
open PySem PyProof.Rows
section
open PySem.SeqAt
open PySem.AutoSeq1 (wpAny_loadPart')
open PySem.MeetsSeq PySem.MeetsSeq2 PySem.MeetsSeq3
end
section
variable {prog : Program} {w : World} {A : Around} {E : Value -> Shared -> Prop} {s : Shared}
def sIx (n d : Nat) : Option Int -> Nat
  | none => d
  | some v => if v < 0 then (v + (n : Int)).toNat else min v.toNat n
theorem sIx_nat (n d k : Nat) : sIx n d (some (k : Int)) = min k n := by
  show (if (k : Int) < 0 then ((k : Int) + (n : Int)).toNat else min (k : Int).toNat n) = min k n
  rw [if_neg (by omega), Int.toNat_natCast]
theorem sIx_le (n d : Nat) (hd : d <= n) (o : Option Int) : sIx n d o <= n := by
  cases o with
  | none => exact hd
  | some v =>
    show (if v < 0 then (v + (n : Int)).toNat else min v.toNat n) <= n
    by_cases hv : v < 0
    · rw [if_pos hv]; omega
    · rw [if_neg hv]; exact Nat.min_le_right _ _
end
end HT
namespace L2
open PySem PySem.Spec PyProof.Rows
abbrev TO := St -> Hp -> (Option Int -> Hp -> Prop) -> Prop
def PO (X : Cx) (e : Option Expr) (t : TO) : Prop :=
  ∀ (pins : List (Addr × Obj)) (s : Shared) (σ : St) (H : Hp) (Q : Option Int -> Hp -> Prop), Inv X pins σ H s -> t σ H Q ->
    wpAny (model X.prog X.w) X.A (evalPart e X.env) (fun u s' => ∃ o H', Inv X pins σ H' s' /\ IsPart u o /\ Q o H') X.xe s
def tNoPart : TO := fun _ H Q => Q none H
def tPart (t : TE) : TO := fun σ H Q => t σ H fun x H1 => ∃ i, x = .int i /\ Q (some i) H1
section
variable {X : Cx} {e : Expr} {te : TE} {lo hi : Option Expr} {tl th : TO} {pos p2 : Pos}
theorem po_none : PO X none tNoPart := by
  intro pins s σ H Q I h
  rw [evalPart_none]
  exact wpAny_pure ⟨none, H, I, .none, h⟩
theorem po_some (h : PE X e te) : PO X (some e) (tPart te) := by
  intro pins s σ H Q I hw
  rw [evalPart_some]
  refine thn (h pins s σ H _ I hw) fun u s1 ⟨x, H1, I1, r1, q1⟩ => ?_
  obtain ⟨i, rfl, q⟩ := q1
  obtain ⟨t, rfl⟩ := r1
  exact ⟨some i, H1, I1, .int i t, q⟩
def SlR (X : Cx) (r : V -> Option Int -> Option Int -> Hp -> VK -> Prop) : Prop :=
  ∀ (pins : List (Addr × Obj)) (s : Shared) (σ : St) (H : Hp) (x : V) (v vl vu : Value) (lo hi : Option Int) (sl : Addr) (Q : VK), Inv X pins σ H s -> RelV x v -> s.heap.IsSliceOf sl vl vu .none -> IsPart vl lo -> IsPart vu hi -> r x lo hi H Q ->
    ∃ T id, typeLookup (.type T) "__getitem__" = pure (some (.builtin id)) /\ s.TypeIs v T /\ wpAny (model X.prog X.w) X.A (getItem v (.ref sl)) (EP X pins σ Q) X.xe s
def tSl (r : V -> Option Int -> Option Int -> Hp -> VK -> Prop) (te : TE) (tl th : TO) : TE := fun σ H Q => te σ H fun x H1 => tl σ H1 fun l H2 => th σ H2 fun u H3 => r x l u H3 Q
theorem pe_slice {r : V -> Option Int -> Option Int -> Hp -> VK -> Prop} (hr : SlR X r) (he : PE X e te) (hl : PO X lo tl) (hu : PO X hi th) : PE X (.Subscript e (.Slice lo hi none p2) pos) (tSl r te tl th) := by
  intro pins s σ H Q I h
  refine Subscript_ (thn (he pins s σ H _ I h) fun v s1 ⟨x, H1, I1, r1, q1⟩ => ?_)
  refine wpAny_Slice (thn (hl pins s1 σ H1 _ I1 q1) fun vl s2 ⟨l, H2, I2, pl, q2⟩ => thn (hu pins s2 σ H2 _ I2 q2) fun vu s3 ⟨u, H3, I3, pu, q3⟩ => ?_)
  rw [evalPart_none]
  refine wpAny_pure ?_
  have I4 : Inv X pins σ H3 { s3 with heap := s3.heap.push { cls := .type "slice", data := .fields #[vl, vu, .none] } } := I3.kept (t' := s3.toks) fun b ob q => Heap.get?_push_of_some _ q
  obtain ⟨T, id, hT, ht, hg⟩ := hr pins { s3 with heap := s3.heap.push { cls := .type "slice", data := .fields #[vl, vu, .none] } } σ H3 x v vl vu l u s3.heap.objs.size Q I4 r1 (Heap.IsSliceOf.new ..) pl pu q3
  show wpAny (model X.prog X.w) X.A (subscriptTail e (.Slice lo hi none p2) v (.ref s3.heap.objs.size)) (EP X pins σ Q) X.xe { s3 with heap := s3.heap.push { cls := .type "slice", data := .fields #[vl, vu, .none] } }
  exact tail_any (ops := [.ref s3.heap.objs.size, v]) ht hT hg (by with_unfolding_all rfl)
def cutV (xs : List V) (lo hi : Option Int) : List V := (xs.drop (HT.sIx xs.length 0 lo)).take (HT.sIx xs.length xs.length hi - HT.sIx xs.length 0 lo)
theorem cutV_length (xs : List V) (lo hi : Option Int) : (cutV xs lo hi).length <= xs.length := by
  unfold cutV
  rw [List.length_take, List.length_drop]
  omega
end
end L2
namespace L2
open PySem PySem.Spec PyProof.Rows
def ixN (n : Nat) (i : Int) : Option Nat := if 0 <= i then (if i < n then some i.toNat else none) else if -(n : Int) <= i then some (i + n).toNat else none
def atI {α : Type} (xs : List α) (i : Int) : Option α := (ixN xs.length i).bind fun j => xs[j]?
theorem ixN_seq {n : Nat} {i : Int} {j : Nat} (h : ixN n i = some j) : seqIndex? i n = some j /\ j < n /\ -(n : Int) <= i /\ i < n := by
  unfold ixN at h
  by_cases h0 : 0 <= i
  · rw [if_pos h0] at h
    by_cases h1 : i < n
    · rw [if_pos h1] at h
      have e : i.toNat = j := Option.some.inj h
      exact ⟨by rw [seqIndex_of h0 h1, e], by omega, by omega, h1⟩
    · rw [if_neg h1] at h; cases h
  · rw [if_neg h0] at h
    by_cases h1 : -(n : Int) <= i
    · rw [if_pos h1] at h
      have e : (i + n).toNat = j := Option.some.inj h
      exact ⟨by rw [seqIndex_neg (by omega) h1, e], by omega, h1, by omega⟩
    · rw [if_neg h1] at h; cases h
theorem atI_get {α : Type} {xs : List α} {i : Int} {v : α} (h : atI xs i = some v) : ∃ j, seqIndex? i xs.length = some j /\ xs[j]? = some v /\ j < xs.length /\ -(xs.length : Int) <= i /\ i < xs.length := by
  unfold atI at h
  cases e : ixN xs.length i with
  | none => rw [e] at h; cases h
  | some j =>
    rw [e] at h
    obtain ⟨h1, h2, h3, h4⟩ := ixN_seq e
    exact ⟨j, h1, h, h2, h3, h4⟩
theorem atI_nat {α : Type} {xs : List α} {j : Nat} {v : α} (h : xs[j]? = some v) : atI xs (j : Int) = some v := by
  have hj : j < xs.length := (List.getElem?_eq_some_iff.mp h).1
  have e : ixN xs.length (j : Int) = some j := by
    unfold ixN
    rw [if_pos (by omega), if_pos (by omega)]; simp
  unfold atI; rw [e]; exact h
theorem atI_last {α : Type} (xs : List α) (v : α) : atI (xs ++ [v]) (-1) = some v := by
  have hl : (xs ++ [v]).length = xs.length + 1 := by simp
  have e : ixN (xs ++ [v]).length (-1) = some xs.length := by
    unfold ixN
    rw [hl, if_neg (by decide), if_pos (by omega)]
    congr 1
    omega
  unfold atI
  rw [e]
  show (xs ++ [v])[xs.length]? = some v
  simp
def PlainIx (b : Expr) : Prop := ∀ o i, subscripted b false o i = operate [o, i] (getItem o i)
def IxR (X : Cx) (r : R2) : Prop :=
  ∀ (value slice : Expr) (pins : List (Addr × Obj)) (s : Shared) (σ : St) (H : Hp) (x y : V) (v u : Value) (Q : VK), Inv X pins σ H s -> RelV x v -> RelV y u -> r x y H Q ->
    subscripted slice false v u = operate [v, u] (getItem v u) -> wpAny (model X.prog X.w) X.A (subscriptTail value slice v u) (EP X pins σ Q) X.xe s
def MtR (X : Cx) (id : String) (r : V -> List V -> Hp -> VK -> Prop) : Prop :=
  ∀ (pins : List (Addr × Obj)) (s : Shared) (σ : St) (H : Hp) (x : V) (xs : List V) (v : Value) (us : List Value) (Q : VK), Inv X pins σ H s -> RelV x v -> Vals xs us -> r x xs H Q ->
    wpAny (model X.prog X.w) X.A (call (.builtin id) (v :: us)) (EP X pins σ Q) X.xe s
section
variable {X : Cx} {a b : Expr} {ta tb : TE} {pos : Pos}
theorem pe_ix {r : R2} (hr : IxR X r) (ha : PE X a ta) (hb : PE X b tb) (hs : PlainIx b) : PE X (.Subscript a b pos) (tOp r ta tb) := by
  intro pins s σ H Q I h
  exact Subscript_ (binT ha hb I h fun v u s2 x y H2 I2 rx ry q => hr a b pins s2 σ H2 x y v u Q I2 rx ry q (hs _ _))
def rIxL (K : PySem.W.Frag) : R2 := fun x y H Q => ∃ p xs i v, x = .ref p /\ y = .int i /\ SqL K H p xs /\ atI xs i = some v /\ Q v H
theorem ix_list : IxR X (rIxL X.K) := by
  intro value slice pins s σ H x y v u Q I rx ry h hs
  obtain ⟨p, xs, i, z, rfl, rfl, hq, he, q⟩ := h
  cases rx
  obtain ⟨t, rfl⟩ := ry
  obtain ⟨its, r, pl, hz⟩ := I.list hq
  obtain ⟨j, h1, h2, h3, h4, h5⟩ := atI_get he
  obtain ⟨w, ew, rw'⟩ := r.get h2
  have hl := r.length
  have hn := line63
  have fin : EP X pins σ Q w s := ⟨z, H, I, rw', q⟩
  by_cases h0 : 0 <= i
  · have hj : i.toNat = j := by
      rw [seqIndex_of h0 h5] at h1
      exact Option.some.inj h1
    exact item_listR pl.isList h0 (by omega) (by rw [hj]; simpa using ew) fin hs
  · have hj : (i + (its.toArray.size : Int)).toNat = j := by
      rw [seqIndex_neg (by omega) h4] at h1
      rw [List.size_toArray, <- hl]
      exact Option.some.inj h1
    exact subscriptTail_builtinR (x := w) pl.isList.typeIs slot_list_getitem.lookup
      (wpAny_getItem_list_neg (Q := fun r s' => r = w /\ EP X pins σ Q r s') pl.isList (by omega) (by rw [List.size_toArray] <;> omega) (by omega) (by rw [hj]; simpa using ew) ⟨rfl, fin⟩) hs
theorem slice_bounds (lo hi : Option Int) (n : Nat) : (sliceBounds lo hi none n).1 = ((HT.sIx n 0 lo : Nat) : Int) /\ (sliceBounds lo hi none n).2.1 = ((HT.sIx n n hi : Nat) : Int) /\ (sliceBounds lo hi none n).2.2 = 1 := by
  refine ⟨?_, ?_, rfl⟩
  · cases lo with
    | none => simp [sliceBounds, HT.sIx]
    | some i =>
      simp only [sliceBounds, HT.sIx, Option.getD_none, show (1 : Int) > 0 by decide, if_true]
      by_cases h : i < 0
      · simp only [h, if_true] <;> omega
      · simp only [h, if_false] <;> omega
  · cases hi with
    | none => simp [sliceBounds, HT.sIx]
    | some i =>
      simp only [sliceBounds, HT.sIx, Option.getD_none, show (1 : Int) > 0 by decide, if_true]
      by_cases h : i < 0
      · simp only [h, if_true] <;> omega
      · simp only [h, if_false] <;> omega
theorem slicePick_cut (its : List Value) (lo hi : Option Int) : slicePick its.toArray lo hi none = ((its.drop (HT.sIx its.length 0 lo)).take (HT.sIx its.length its.length hi - HT.sIx its.length 0 lo)).toArray := by
  obtain ⟨h1, h2, h3⟩ := slice_bounds lo hi its.toArray.size
  unfold slicePick
  rw [h1, h2, h3]
  simp only [sliceRange_one, pick_run, List.size_toArray] <;> rfl
def rSlL (K : PySem.W.Frag) : V -> Option Int -> Option Int -> Hp -> VK -> Prop := fun x lo hi H Q => ∃ a xs, x = .ref a /\ SqL K H a xs /\ ∀ p, H p = none -> Q (.ref p) (upd H p (.lst (cutV xs lo hi)))
theorem sl_list : SlR X (rSlL X.K) := by
  intro pins s σ H x v vl vu lo hi sl Q I rx hs pl pu h
  obtain ⟨a, xs, rfl, hx, q⟩ := h
  cases rx
  obtain ⟨its, r, ht, hz⟩ := I.list hx
  have hlen := r.length
  refine ⟨"list", _, slot_list_getitem.lookup, ht.isList.typeIs, ?_⟩
  refine wpAny_getItem_list_slice ht.isList hs pl pu .none (by simp) ?_ (by rw [List.size_toArray] <;> omega)
  rw [slicePick_cut, <- hlen]
  refine ⟨.ref s.heap.objs.size, _, I.laid (t' := s.toks) (o := .lst (cutV xs lo hi)) (fun b ob q => Heap.get?_push_of_some _ q) (Nat.le_refl _) ?_, rfl, q _ (I.hok.fresh (Nat.le_refl _))⟩
  exact ⟨Nat.le_trans (cutV_length xs lo hi) hz, _, 0, (r.drop (HT.sIx xs.length 0 lo)).take (HT.sIx xs.length xs.length hi - HT.sIx xs.length 0 lo), Heap.get?_push_size _ rfl⟩
def flatV : V -> Bool
  | .non => true
  | .bl _ => true
  | .int _ => true
  | .str _ => true
  | _ => false
def eqV : V -> V -> Bool
  | .non, .non => true
  | .bl a, .bl b => a == b
  | .bl a, .int b => (if a then 1 else 0) == b
  | .int a, .bl b => a == (if b then 1 else 0)
  | .int a, .int b => a == b
  | .str a, .str b => a == b
  | _, _ => false
theorem eqAt_V {A : Around} {s : Shared} {y x : V} {u v : Value} (ry : RelV y u) (rx : RelV x v) (fy : flatV y = true) (fx : flatV x = true) : SeqAt.EqAt A s u v (eqV y x) := by
  cases y with
  | non =>
    cases ry
    cases x with
    | non => cases rx; exact SeqAt.EqAt.same _
    | bl b => cases rx; exact SeqAt.EqAt.none_bool b
    | int b => obtain ⟨t, rfl⟩ := rx; exact SeqAt.EqAt.none_int b t
    | str b => obtain ⟨t, rfl⟩ := rx; exact SeqAt.EqAt.none_str b t
    | _ => exact absurd (show false = true from fx) Bool.false_ne_true
  | bl a =>
    cases ry
    cases x with
    | non => cases rx; exact SeqAt.EqAt.bool_none a
    | bl b => cases rx; exact SeqAt.EqAt.bool_bool a b
    | int b => obtain ⟨t, rfl⟩ := rx; exact SeqAt.EqAt.bool_int a b t
    | str b => obtain ⟨t, rfl⟩ := rx; exact SeqAt.EqAt.bool_str a b t
    | _ => exact absurd (show false = true from fx) Bool.false_ne_true
  | int a =>
    obtain ⟨t', rfl⟩ := ry
    cases x with
    | non => cases rx; exact SeqAt.EqAt.int_none a t'
    | bl b => cases rx; exact SeqAt.EqAt.int_bool a t' b
    | int b => obtain ⟨t, rfl⟩ := rx; exact SeqAt.EqAt.int_int a t' b t
    | str b => obtain ⟨t, rfl⟩ := rx; exact SeqAt.EqAt.int_str a t' b t
    | _ => exact absurd (show false = true from fx) Bool.false_ne_true
  | str a =>
    obtain ⟨t', rfl⟩ := ry
    cases x with
    | non => cases rx; exact SeqAt.EqAt.str_none a t'
    | bl b => cases rx; exact SeqAt.EqAt.str_bool a t' b
    | int b => obtain ⟨t, rfl⟩ := rx; exact SeqAt.EqAt.str_int a t' b t
    | str b => obtain ⟨t, rfl⟩ := rx; exact SeqAt.EqAt.str_str a t' b t
    | _ => exact absurd (show false = true from fx) Bool.false_ne_true
  | _ => exact absurd (show false = true from fy) Bool.false_ne_true
def eqU (x : V) (u : Value) : Bool := match u with
  | .none => eqV .non x
  | .bool b => eqV (.bl b) x
  | .int i _ => eqV (.int i) x
  | .str z _ => eqV (.str z) x
  | _ => false
theorem eqU_of {x y : V} {u : Value} (r : RelV y u) (f : flatV y = true) : eqU x u = eqV y x := by
  cases y with
  | non => cases r; rfl
  | bl b => cases r; rfl
  | int i => obtain ⟨t, rfl⟩ := r; rfl
  | str z => obtain ⟨t, rfl⟩ := r; rfl
  | _ => exact absurd (show false = true from f) Bool.false_ne_true
theorem any_eqU {x : V} : ∀ {xs : List V} {us : List Value}, Vals xs us -> xs.all flatV = true -> us.any (eqU x) = xs.any fun y => eqV y x
  | _, _, .nil, _ => rfl
  | y :: xs, u :: us, .cons r t, f => by
    rw [List.all_cons, Bool.and_eq_true] at f
    rw [List.any_cons, List.any_cons, eqU_of r f.1, any_eqU t f.2]
theorem mem_eqAt {A : Around} {s : Shared} {x : V} {v : Value} (rx : RelV x v) (fx : flatV x = true) : ∀ {xs : List V} {us : List Value}, Vals xs us -> xs.all flatV = true -> ∀ u ∈ us, SeqAt.EqAt A s u v (eqU x u)
  | _, _, .nil, _ => fun u hu => by cases hu
  | y :: xs, u :: us, .cons r t, f => fun u' hu => by
    rw [List.all_cons, Bool.and_eq_true] at f
    rcases List.mem_cons.mp hu with rfl | hu
    · rw [eqU_of r f.1]; exact eqAt_V r rx f.1 fx
    · exact mem_eqAt rx fx t f.2 u' hu
def inV (x : V) (xs : List V) : Bool := xs.any fun y => eqV y x
def rIn (K : PySem.W.Frag) (neg : Bool) : R2 := fun x y H Q => ∃ p xs, y = .ref p /\ (SqL K H p xs \/ SqT K H p xs) /\ flatV x = true /\ xs.all flatV = true /\ Q (.bl (if neg then !inV x xs else inV x xs)) H
theorem op_in_seq : OpR X (compareOp .In) (rIn X.K false) := by
  intro pins s σ H x y v u Q I rx ry h
  obtain ⟨p, xs, rfl, hq, fx, fs, q⟩ := h
  cases ry
  rcases hq with hq | hq
  · obtain ⟨its, r, pl, hz⟩ := I.list hq
    refine SeqAt.in_listAt (eqU x) pl.isList (fun w hw => mem_eqAt rx fx r fs w (by simpa using hw)) ⟨.bl _, H, I, rfl, ?_⟩
    rw [show its.toArray.any (eqU x) = its.any (eqU x) by simp, any_eqU r fs]
    exact q
  · obtain ⟨its, r, pl, hz⟩ := I.tuple hq
    refine SeqAt.in_tupleAt (eqU x) pl (fun w hw => mem_eqAt rx fx r fs w (by simpa using hw)) ⟨.bl _, H, I, rfl, ?_⟩
    rw [show its.toArray.any (eqU x) = its.any (eqU x) by simp, any_eqU r fs]
    exact q
theorem op_notIn_seq : OpR X (compareOp .NotIn) (rIn X.K true) := by
  intro pins s σ H x y v u Q I rx ry h
  obtain ⟨p, xs, rfl, hq, fx, fs, q⟩ := h
  cases ry
  rcases hq with hq | hq
  · obtain ⟨its, r, pl, hz⟩ := I.list hq
    refine SeqAt.notIn_listAt (eqU x) pl.isList (fun w hw => mem_eqAt rx fx r fs w (by simpa using hw)) ⟨.bl _, H, I, rfl, ?_⟩
    rw [show its.toArray.any (eqU x) = its.any (eqU x) by simp, any_eqU r fs]
    exact q
  · obtain ⟨its, r, pl, hz⟩ := I.tuple hq
    refine SeqAt.notIn_tupleAt (eqU x) pl (fun w hw => mem_eqAt rx fx r fs w (by simpa using hw)) ⟨.bl _, H, I, rfl, ?_⟩
    rw [show its.toArray.any (eqU x) = its.any (eqU x) by simp, any_eqU r fs]
    exact q
theorem call_len_seq : CallR X (.builtin "len") (fun xs H Q => ∃ p ys, xs = [.ref p] /\ (SqL X.K H p ys \/ SqT X.K H p ys) /\ Q (.int ys.length) H) := by
  intro pins s σ H xs us Q I r h
  obtain ⟨p, ys, rfl, hq, q⟩ := h
  obtain ⟨u, rfl, rx⟩ := vals1 r
  cases rx
  have hn := line63
  rcases hq with hq | hq
  · obtain ⟨its, r', pl, hz⟩ := I.list hq
    have hlen := r'.length
    exact Calls.call_len_list pl.isList (by simp only [List.size_toArray] <;> omega) ⟨.int ys.length, H, I.tok _, ⟨s.toks + 1, by rw [List.size_toArray, hlen]⟩, q⟩
  · obtain ⟨its, r', pl, hz⟩ := I.tuple hq
    have hlen := r'.length
    exact len_tuple pl (by simp only [List.size_toArray] <;> omega) ⟨.int ys.length, H, I.tok _, ⟨s.toks + 1, by rw [List.size_toArray, hlen]⟩, q⟩
theorem call_len_str : CallR X (.builtin "len") (fun xs H Q => ∃ z, xs = [.str z] /\ z.length <= sizeLine /\ Q (.int z.length) H) := by
  intro pins s σ H xs us Q I r h
  obtain ⟨z, rfl, hz, q⟩ := h
  obtain ⟨u, rfl, t, rfl⟩ := vals1 r
  have hn := line63
  exact len_str (by omega) ⟨.int z.length, H, I.tok _, ⟨_, rfl⟩, q⟩
theorem call_tuple_of : CallR X (.type "tuple") (fun xs H Q => ∃ p ys, xs = [.ref p] /\ ((SqL X.K H p ys /\ ∀ l, H l = none -> Q (.ref l) (upd H l (.tup ys))) \/ (SqT X.K H p ys /\ Q (.ref p) H))) := by
  intro pins s σ H xs us Q I r h
  obtain ⟨p, ys, rfl, h⟩ := h
  obtain ⟨u, rfl, rx⟩ := vals1 r
  cases rx
  rcases h with ⟨hq, q⟩ | ⟨hq, q⟩
  · obtain ⟨its, r', pl, hz⟩ := I.list hq
    have hlen := r'.length
    refine call_tuple_list pl.isList (fun h' kp => ?_) (by simp only [List.size_toArray] <;> omega)
    have I1 : Inv X pins σ H { s with heap := h' } := I.kept (t' := s.toks) kp
    have I2 : Inv X pins σ (upd H h'.objs.size (.tup ys)) { s with heap := h'.push { cls := .type "tuple", data := .seq its.toArray } } :=
      I1.laid (t' := s.toks) (fun b o e => Heap.get?_push_of_some _ e) (Nat.le_refl _) (show ObjOk X.prog X.w _ _ _ (.tup ys) from ⟨hz, its, r', IsTup.new _ _⟩)
    exact ⟨.ref h'.objs.size, _, I2, rfl, q _ (I1.hok.fresh (Nat.le_refl _))⟩
  · obtain ⟨its, r', pl, hz⟩ := I.tuple hq
    exact call_tuple_same pl ⟨.ref p, H, I, rfl, q⟩
def tyV (K : PySem.W.Frag) (T : String) (x : V) (H : Hp) : Prop := match x with
  | .str _ => T = "str"
  | .int _ => T = "int"
  | .ref p => (T = "list" /\ ∃ xs, SqL K H p xs) \/ (T = "tuple" /\ ∃ o, K.lookup p = some o /\ o.cls = .type "tuple" /\ o.dict = none) \/
      (T = "dict" /\ ((∃ kvs, H p = some (.dK kvs)) \/ ∃ kvs, H p = some (.dT kvs))) \/ (T = "set" /\ ∃ S n, H p = some (.set S n))
  | _ => False
theorem tyV_is {pins : List (Addr × Obj)} {σ : St} {H : Hp} {s : Shared} {T : String} {x : V} {v : Value} (I : Inv X pins σ H s) (r : RelV x v) (ty : tyV X.K T x H) :
    s.TypeIs v T /\ ∀ a, v = .ref a -> ∃ ob, s.heap.get? a = some ob /\ ob.dict = none := by
  cases x with
  | str z =>
    obtain ⟨t, rfl⟩ := r
    cases (show T = "str" from ty)
    exact ⟨typeIs_str s z t, fun _ e => nomatch e⟩
  | int i =>
    obtain ⟨t, rfl⟩ := r
    cases (show T = "int" from ty)
    exact ⟨typeIs_int s i t, fun _ e => nomatch e⟩
  | ref p =>
    cases r
    rcases ty with ⟨rfl, xs, hq⟩ | ⟨rfl, o, hk, hc, hd⟩ | ⟨rfl, hk⟩ | ⟨rfl, S, n, hk⟩
    · obtain ⟨its, _, pl, _⟩ := I.list hq
      refine ⟨pl.isList.typeIs, fun a e => ?_⟩
      cases e
      obtain ⟨o, n, e, c, hd, _⟩ := pl
      exact ⟨o, e, hd⟩
    · refine ⟨⟨o, I.kIn p o hk, hc⟩, fun a e => ?_⟩
      cases e
      exact ⟨o, I.kIn _ o hk, hd⟩
    · have z : ∃ o, s.heap.get? p = some o /\ o.ExactDict := by
        rcases hk with ⟨kvs, hk⟩ | ⟨kvs, hk⟩
        · obtain ⟨_, _, _, _, o, _, _, e, ex, _⟩ := I.hok p _ hk
          exact ⟨o, e, ex⟩
        · obtain ⟨_, _, _, _, o, _, _, e, ex, _⟩ := I.hok p _ hk
          exact ⟨o, e, ex⟩
      obtain ⟨o, e, ex⟩ := z
      refine ⟨⟨o, e, ex.1⟩, fun a e2 => ?_⟩
      cases e2
      exact ⟨o, e, ex.2.1⟩
    · obtain ⟨o, _, _, _, e, ex, _⟩ := I.hok p _ hk
      refine ⟨⟨o, e, ex.1⟩, fun a e2 => ?_⟩
      cases e2
      exact ⟨o, e, ex.2.1⟩
  | _ => exact False.elim ty
def tBM0 (K : PySem.W.Frag) (T : String) (r : V -> List V -> Hp -> VK -> Prop) (to : TE) : TE := fun σ H Q => to σ H fun x H1 => tyV K T x H1 /\ r x [] H1 Q
def tBM (K : PySem.W.Frag) (T : String) (r : V -> List V -> Hp -> VK -> Prop) (to : TE) (t : TA) : TE := fun σ H Q => to σ H fun x H1 => tyV K T x H1 /\ t σ H1 fun xs H2 => r x xs H2 Q
variable {o e : Expr} {es : List Expr} {to : TE} {t : TA} {name : Str} {apos cpos : Pos} {T id : String} {r : V -> List V -> Hp -> VK -> Prop}
theorem pe_bm0 (pa : PlainAttrs T) (slot : Slot T name id) (hty : typeOf (.builtin id) = pure (.type "method_descriptor")) (hm : MtR X id r) (ho : PE X o to)
    (hbase : attributeBase o name X.env (eval o X.env) = eval o X.env := by rfl) (hline : (apos.endLine == cpos.line) = true := by rfl) : PE X (.Call (.Attribute o name apos) [] [] cpos) (tBM0 X.K T r to) := by
  intro pins s σ H Q I h
  refine wpAny_Call_method0_late hbase hline (thn (ho pins s σ H _ I h) fun v s1 ⟨x, H1, I1, r1, ty, q1⟩ => ?_)
  obtain ⟨h1, h2⟩ := tyV_is I1 r1 ty
  exact ⟨T, id, pa, slot, hty, h1, h2, Calls.callWith_builtin rfl (PySem.evalArgs_none (hm pins s1 σ H1 x [] v [] Q I1 r1 .nil q1))⟩
theorem pe_bm (pa : PlainAttrs T) (slot : Slot T name id) (hty : typeOf (.builtin id) = pure (.type "method_descriptor")) (hm : MtR X id r) (ho : PE X o to) (ha : PA X (e :: es) t)
    (hbase : attributeBase o name X.env (eval o X.env) = eval o X.env := by rfl)
    (hfew : ((backTo cpos (starEach (e :: es) X.env)).all (fun x => !x.1) && (backToKw cpos (keywordEach [] X.env)).all (fun x => x.1.isSome)
      && decide ((e :: es).length + ([] : List Keyword).length + (if ([] : List Keyword).isEmpty then 0 else 1) < 30)) = true := by rfl)
    (hline : (apos.endLine == cpos.line) = true := by rfl) (hs : starEach (e :: es) X.env = (false, eval e X.env) :: starEach es X.env := by rfl) (hplain : (backTo cpos (starEach es X.env)).any (·.1) = false := by rfl) :
    PE X (.Call (.Attribute o name apos) (e :: es) [] cpos) (tBM X.K T r to t) := by
  intro pins s σ H Q I h
  refine wpAny_Call_method_late hbase hfew hline rfl (thn (ho pins s σ H _ I h) fun v s1 ⟨x, H1, I1, r1, ty, q1⟩ => ?_)
  obtain ⟨h1, h2⟩ := tyV_is I1 r1 ty
  refine ⟨T, id, pa, slot, hty, h1, h2, ?_⟩
  have hA := ha cpos pins s1 σ H1 _ I1 q1
  rw [hs] at hA ⊢
  refine Calls.callWith_builtin (by show (false || (backTo cpos (starEach es X.env)).any (·.1)) = false; rw [hplain] <;> rfl) (Calls.evalArgs_plain ?_)
  exact thn hA fun us s2 ⟨vs, H2, I2, r2, q2⟩ => hm pins s2 σ H2 x vs v us Q I2 r1 r2 q2
end
end L2
namespace L2
open PySem PySem.Spec PyProof.Rows
def MtM (X : Cx) (id : String) (r : V -> List V -> Hp -> VK -> Prop) : Prop :=
  ∀ (pins : List (Addr × Obj)) (s : Shared) (σ : St) (H : Hp) (x : V) (xs : List V) (v : Value) (us : List Value) (Q : VK), Inv X pins σ H s -> RelV x v -> Vals xs us -> r x xs H Q ->
    wpAny (model X.prog X.w) X.A (call (.builtin id) (v :: us)) (EP X pins σ Q) X.xe s
theorem Vals.one : ∀ {x : V} {us : List Value}, Vals [x] us -> ∃ u, us = [u] /\ RelV x u
  | _, _, .cons r .nil => ⟨_, rfl, r⟩
theorem Vals.zero : ∀ {us : List Value}, Vals [] us -> us = []
  | _, .nil => rfl
theorem Vals.dropLast {xs : List V} {us : List Value} (h : Vals xs us) : Vals xs.dropLast us.dropLast := by
  induction h with
  | nil => exact .nil
  | cons r t ih =>
    cases t with
    | nil => exact .nil
    | cons q t' => exact .cons r ih
theorem Vals.reverse {xs : List V} {us : List Value} (h : Vals xs us) : Vals xs.reverse us.reverse := by
  induction h with
  | nil => exact .nil
  | cons r t ih => rw [List.reverse_cons, List.reverse_cons]; exact Vals.append ih (.cons r .nil)
theorem erase_last {α : Type} (l : List α) : l.eraseIdx (l.length - 1) = l.dropLast := by
  induction l with
  | nil => rfl
  | cons a r ih =>
    cases r with
    | nil => rfl
    | cons b r =>
      have e : (a :: b :: r).length - 1 = ((b :: r).length - 1) + 1 := by
        have h1 : (a :: b :: r).length = r.length + 2 := rfl
        have h2 : (b :: r).length = r.length + 1 := rfl
        omega
      rw [e, List.eraseIdx_cons_succ, ih]
      all_goals rfl
section
variable {X : Cx} {pins : List (Addr × Obj)} {σ : St} {H : Hp} {s : Shared} {l b : Addr} {xs ys zs : List V}
theorem Inv.lset {its its' : List Value} {n : Nat} {f : Array Value -> Array Value} {t' : Nat} (I : Inv X pins σ H s) (hH : H l = some (.lst xs))
    (e : s.heap.get? l = some { cls := .type "list", data := .seq its.toArray n }) (hf : f its.toArray = its'.toArray) (hv : Vals ys its') (hz : ys.length <= sizeLine) :
    Inv X pins σ (upd H l (.lst ys)) { s with heap := s.heap.update l (Obj.mapSeq f), toks := t' } := by
  have q := PySem.IsL.update e f
  rw [hf] at q
  refine I.write (x := l) (e := l) (by rw [hH]; exact trivial) (.inl rfl) (fun b' u hb hu => (Heap.get?_update_other s.heap (Obj.mapSeq f) (Ne.symm hb)).trans hu) ⟨_, q⟩ ?_
  exact ⟨hz, its', _, hv, q⟩
theorem Inv.lnew {its : List Value} {t' : Nat} (I : Inv X pins σ H s) (hv : Vals ys its) (hz : ys.length <= sizeLine) :
    Inv X pins σ (upd H s.heap.objs.size (.lst ys)) { s with heap := s.heap.push { cls := .type "list", data := .seq its.toArray }, toks := t' } :=
  I.laid (fun _ _ q => Heap.get?_push_of_some _ q) (Nat.le_refl _) ⟨hz, its, 0, hv, Heap.get?_push_size _ rfl⟩
theorem Inv.fresh (I : Inv X pins σ H s) : H s.heap.objs.size = none := I.hok.fresh (Nat.le_refl _)
theorem Inv.lstM (I : Inv X pins σ H s) (hH : H l = some (.lst xs)) : xs.length <= sizeLine /\ ∃ (its : List Value) (n : Nat), Vals xs its /\ xs.length = its.length /\ s.heap.get? l = some { cls := .type "list", data := .seq its.toArray n } := by
  obtain ⟨z, its, n, r, e⟩ := I.hok l _ hH
  exact ⟨z, its, n, r, r.length, e⟩
theorem notLongL {n : Nat} (h : n <= sizeLine) : Builtin.List.listTooLong n = false := by
  unfold Builtin.List.listTooLong
  exact decide_eq_false (by omega)
end
section
variable {X : Cx}
def rAppend : V -> List V -> Hp -> VK -> Prop := fun x vs H Q => ∃ l xs y, x = .ref l /\ vs = [y] /\ H l = some (.lst xs) /\ xs.length < sizeLine /\ Q .non (upd H l (.lst (xs ++ [y])))
theorem mt_append : MtM X "list.append" rAppend := by
  intro pins s σ H x vs v us Q I rx rv h
  obtain ⟨l, xs, y, rfl, rfl, hH, hz, q⟩ := h
  cases rx
  obtain ⟨u, rfl, ru⟩ := rv.one
  obtain ⟨z, its, n, r, hl, e⟩ := I.lstM hH
  refine call_meets F.slot_list_append ⟨_, e, rfl⟩ F.entry_list_append (F.args_list_append_2 _ _) (PySem.list_append l its.toArray n u (by rw [List.size_toArray]; omega)) ⟨e, ?_⟩
  refine ⟨.non, _, I.lset (its' := its ++ [u]) hH e (by simp) (r.append (.cons ru .nil)) ?_, rfl, q⟩
  rw [List.length_append, List.length_singleton]
  omega
def rExtend : V -> List V -> Hp -> VK -> Prop := fun x vs H Q => ∃ l b xs zs, x = .ref l /\ vs = [.ref b] /\ H l = some (.lst xs) /\ H b = some (.lst zs) /\ xs.length + zs.length <= sizeLine /\ Q .non (upd H l (.lst (xs ++ zs)))
theorem mt_extend : MtM X "list.extend" rExtend := by
  intro pins s σ H x vs v us Q I rx rv h
  obtain ⟨l, b, xs, zs, rfl, rfl, hH, hB, hz, q⟩ := h
  cases rx
  obtain ⟨u, rfl, ru⟩ := rv.one
  cases ru
  obtain ⟨z, its, n, r, hl, e⟩ := I.lstM hH
  obtain ⟨z2, its2, n2, r2, hl2, e2⟩ := I.lstM hB
  have hsz : its.toArray.size + its2.toArray.size <= sizeLine := by rw [List.size_toArray, List.size_toArray]; omega
  have hlong : ¬ (!its.toArray.isEmpty && Builtin.List.listTooLong (its.toArray.size + its2.toArray.size)) = true := by
    rw [notLongL hsz, Bool.and_false]
    exact Bool.false_ne_true
  refine call_meets F.slot_list_extend ⟨_, e, rfl⟩ F.entry_list_extend (F.args_list_extend_2 _ _)
    (AutoSeq1.list_extend_list_list_0 l its.toArray n b its2.toArray n2 hlong (by rw [List.size_toArray]; omega) (by omega)) ⟨e, e2, ?_⟩
  refine ⟨.non, _, I.lset (its' := its ++ its2) hH e (by simp) (r.append r2) ?_, rfl, q⟩
  rw [List.length_append]
  omega
def rPop : V -> List V -> Hp -> VK -> Prop := fun x vs H Q => ∃ l xs y, x = .ref l /\ vs = [] /\ H l = some (.lst xs) /\ xs[xs.length - 1]? = some y /\ Q y (upd H l (.lst xs.dropLast))
theorem mt_pop : MtM X "list.pop" rPop := by
  intro pins s σ H x vs v us Q I rx rv h
  obtain ⟨l, xs, y, rfl, rfl, hH, hy, q⟩ := h
  cases rx
  have hus := rv.zero
  subst hus
  obtain ⟨z, its, n, r, hl, e⟩ := I.lstM hH
  obtain ⟨u, hu, ru⟩ := r.get hy
  have hy' : its.toArray[its.toArray.size - 1]? = some u := by
    show its.toArray[its.length - 1]? = some u
    rw [<- Array.getElem?_toList, <- hl]
    exact hu
  refine call_meets F.slot_list_pop ⟨_, e, rfl⟩ F.entry_list_pop (F.args_list_pop_1 _) (MeetsSeq.list_pop_last l its.toArray n u hy' (by rw [List.size_toArray]; omega)) ⟨e, ?_⟩
  refine ⟨y, _, I.lset (its' := its.dropLast) hH e ?_ r.dropLast ?_, ru, q⟩
  · show its.toArray.eraseIdxIfInBounds (its.toArray.size - 1) = its.dropLast.toArray
    rw [List.size_toArray, List.eraseIdxIfInBounds_toArray, erase_last]
  · rw [List.length_dropLast]
    omega
def rCat : R2 := fun x y H Q => ∃ l b xs zs, x = .ref l /\ y = .ref b /\ H l = some (.lst xs) /\ H b = some (.lst zs) /\ xs.length + zs.length <= sizeLine /\ ∀ p, H p = none -> Q (.ref p) (upd H p (.lst (xs ++ zs)))
theorem op_cat : OpR X (binaryOp .Add) rCat := by
  intro pins s σ H x y v u Q I rx ry h
  obtain ⟨l, b, xs, zs, rfl, rfl, hH, hB, hz, q⟩ := h
  cases rx
  cases ry
  obtain ⟨z, its, n, r, hl, e⟩ := I.lstM hH
  obtain ⟨z2, its2, n2, r2, hl2, e2⟩ := I.lstM hB
  refine PySem.P.add_list e e2 ?_ (by rw [List.size_toArray, List.size_toArray]; omega)
  have ea : its.toArray ++ its2.toArray = (its ++ its2).toArray := by simp
  rw [ea]
  exact ⟨.ref _, _, I.lnew (t' := s.toks) (r.append r2) (by rw [List.length_append]; omega), rfl, q _ I.fresh⟩
end
section
variable {prog : Program} {w : World} {A : Around} {E : Value -> Shared -> Prop} {s : Shared}
set_option maxRecDepth 100000 in
end
section
variable {X : Cx}
end
end L2
namespace L2
open PySem PySem.Spec PyProof.Rows
theorem Vals.ints : ∀ {ns : List Int} {us : List Value}, Vals (ns.map V.int) us -> IntsAre us ns
  | [], us, h => by
    rw [List.map_nil] at h
    cases h
    exact IntsAre.nil
  | n :: ns, us, h => by
    rw [List.map_cons] at h
    cases h with
    | cons r t =>
      obtain ⟨k, rfl⟩ := r
      exact IntsAre.cons n k (Vals.ints t)
theorem Vals.ref1 {a : Addr} {us : List Value} (r : Vals [V.ref a] us) : us = [Value.ref a] := by
  cases r with
  | cons r t =>
    cases t
    cases r
    rfl
section
variable {prog : Program} {w : World} {A : Around} {E : Value -> Shared -> Prop} {s : Shared} {l : Addr} {its : List Value} {ns : List Int} {Q : Value -> Shared -> Prop}
end
section
variable {X : Cx}
end
section
variable {X : Cx}
end
section
variable {X : Cx}
end
section
variable {X : Cx}
end
mutual
inductive Dp (K : PySem.W.Frag) (H : Hp) : V -> PyData -> Prop
  | non : Dp K H .non .none
  | bl (b : Bool) : Dp K H (.bl b) (.bool b)
  | int (i : Int) : Dp K H (.int i) (.int i)
  | str (x : Str) : Dp K H (.str x) (.str x)
  | lst {a : Addr} {xs : List V} {ds : List PyData} : SqL K H a xs -> DpAll K H xs ds -> Dp K H (.ref a) (.list ds)
  | tup {a : Addr} {xs : List V} {ds : List PyData} : SqT K H a xs -> DpAll K H xs ds -> Dp K H (.ref a) (.tuple ds)
inductive DpAll (K : PySem.W.Frag) (H : Hp) : List V -> List PyData -> Prop
  | nil : DpAll K H [] []
  | cons {v : V} {vs : List V} {d : PyData} {ds : List PyData} : Dp K H v d -> DpAll K H vs ds -> DpAll K H (v :: vs) (d :: ds)
end
section
variable {X : Cx} {pins : List (Addr × Obj)} {σ : St} {H : Hp} {s : Shared}
mutual
theorem Dp.reads (I : Inv X pins σ H s) : ∀ (d : PyData) (v : V) (u : Value), Dp X.K H v d -> RelV v u -> ∃ as, Reads s.heap u d as
  | .none, _, _, h, r => by
    cases h
    cases r
    exact ⟨_, Reads.none⟩
  | .bool b, _, _, h, r => by
    cases h
    cases r
    exact ⟨_, Reads.bool b⟩
  | .int i, _, _, h, r => by
    cases h
    obtain ⟨t, rfl⟩ := r
    exact ⟨_, Reads.int i t⟩
  | .str x, _, _, h, r => by
    cases h
    obtain ⟨t, rfl⟩ := r
    exact ⟨_, Reads.str x t⟩
  | .list ds, _, _, h, r => by
    cases h with
    | lst hs ha =>
      cases r
      obtain ⟨its, rv, ⟨o, n, ho, hc, _, hd⟩, _⟩ := I.list hs
      obtain ⟨as, hr⟩ := Dp.readsAll I ds _ its ha rv
      exact ⟨_, Reads.list ho hc hd hr⟩
  | .tuple ds, _, _, h, r => by
    cases h with
    | tup hs ha =>
      cases r
      obtain ⟨its, rv, ⟨o, ho, hc, n, hd⟩, _⟩ := I.tuple hs
      obtain ⟨as, hr⟩ := Dp.readsAll I ds _ its ha rv
      exact ⟨_, Reads.tuple ho hc hd hr⟩
  | .dict _, _, _, h, _ => by cases h
theorem Dp.readsAll (I : Inv X pins σ H s) : ∀ (ds : List PyData) (vs : List V) (us : List Value), DpAll X.K H vs ds -> Vals vs us -> ∃ as, ReadsAll s.heap us ds as
  | [], _, _, h, r => by
    cases h
    cases r
    exact ⟨_, ReadsAll.nil⟩
  | d :: ds, _, _, h, r => by
    cases h with
    | cons h1 h2 =>
      cases r with
      | cons r1 r2 =>
        obtain ⟨as, q1⟩ := Dp.reads I d _ _ h1 r1
        obtain ⟨bs, q2⟩ := Dp.readsAll I ds _ _ h2 r2
        exact ⟨_, ReadsAll.cons q1 q2⟩
end
end
section
variable {X : Cx}
def rEqD (K : PySem.W.Frag) : R2 := fun x y H Q => ∃ d e, Dp K H x d /\ Dp K H y e /\ SeqAt.shaped d = true /\ SeqAt.shaped e = true /\ Q (.bl (PyData.eqv d e)) H
theorem op_eqD (hu : X.A.units + 64 < cLine) : OpR X (compareOp .Eq) (rEqD X.K) := by
  intro pins s σ H x y v u Q I rx ry h
  obtain ⟨d, e, hd, he, sd, se, q⟩ := h
  obtain ⟨as, r1⟩ := Dp.reads I d x v hd rx
  obtain ⟨bs, r2⟩ := Dp.reads I e y u he ry
  exact SeqAt.compareEq_shaped r1 r2 sd se hu ⟨.bl _, H, I, rfl, q⟩
end
end L2
namespace L2
open PySem PySem.Spec PyProof.Rows
abbrev CellAt (h : Heap) (c : Addr) (v : Option Value) : Prop := h.IsCell c v
def relS (scope sc : Scope) : Scope :=
  { scope with names := scope.names.map fun (n, k) => if (k == .free && sc.kind == .function && sc.names.lookup n == some .cell) then (n, .cell) else (n, k) }
def cloFrom (cells : List (Str × Addr)) : List (Str × NameKind) -> List (Str × Addr) -> List (Str × Addr)
  | [], acc => acc
  | (n, k) :: r, acc => if k == .free then cloFrom cells r ((n, (cells.lookup n).getD 0) :: acc) else cloFrom cells r acc
theorem closure_loop (env : Env) (f : Str × NameKind -> List (Str × Addr) -> Sem (ForInStep (List (Str × Addr))))
    (hf : ∀ n k c, f (n, k) c = if k == .free then (do let a <- cellOf env n; pure (.yield ((n, a) :: c))) else pure (.yield c)) :
    ∀ (names : List (Str × NameKind)) (acc : List (Str × Addr)), (∀ y ∈ names, y.2 = .free -> ∃ c, env.cells.lookup y.1 = some c) -> forIn names acc f = pure (cloFrom env.cells names acc)
  | [], acc, _ => by rw [List.forIn_nil]; rfl
  | (n, k) :: r, acc, h => by
    rw [List.forIn_cons, hf]
    have ih := fun acc => closure_loop env f hf r acc fun y hy => h y (List.mem_cons_of_mem _ hy)
    unfold cloFrom
    by_cases hk : (k == NameKind.free) = true
    · rw [if_pos hk, if_pos hk]
      obtain ⟨c, hc⟩ := h (n, k) List.mem_cons_self (by simpa using hk)
      have e : cellOf env n = pure c := by unfold cellOf; rw [hc]
      rw [e]
      have e2 : (env.cells.lookup n).getD 0 = c := by rw [hc]; rfl
      rw [e2]
      exact ih _
    · rw [if_neg hk, if_neg hk]
      exact ih _
theorem closure_ok {scope : Scope} {env : Env} (h : ∀ y ∈ scope.names, y.2 = .free -> ∃ c, env.cells.lookup y.1 = some c) : closureFor scope env = pure (cloFrom env.cells scope.names []) := by
  simp only [closureFor]
  rw [closure_loop env _ (fun n k c => rfl) scope.names [] h]
  rfl
theorem mem_lookup {α : Type} : ∀ {l : List (Str × α)} {n : Str} {c : α}, (n, c) ∈ l -> ∃ c', l.lookup n = some c'
  | (k, v) :: r, n, c, h => by
    rw [List.lookup_cons]
    cases hb : n == k with
    | true => exact ⟨_, rfl⟩
    | false =>
      rcases List.mem_cons.mp h with e | h
      · cases e; simp at hb
      · exact mem_lookup h
theorem cloFrom_mem {cells : List (Str × Addr)} : ∀ {names : List (Str × NameKind)} {acc : List (Str × Addr)} {n : Str} {c : Addr}, (n, c) ∈ cloFrom cells names acc -> (n, c) ∈ acc \/ ((n, .free) ∈ names /\ c = (cells.lookup n).getD 0)
  | [], _, _, _, h => .inl h
  | (m, k) :: r, acc, n, c, h => by
    unfold cloFrom at h
    split at h
    · rename_i hk
      have hk : k = .free := by simpa using hk
      rcases cloFrom_mem h with h | ⟨h1, h2⟩
      · rcases List.mem_cons.mp h with e | h
        · cases e; exact .inr ⟨hk ▸ List.mem_cons_self, rfl⟩
        · exact .inl h
      · exact .inr ⟨List.mem_cons_of_mem _ h1, h2⟩
    · rcases cloFrom_mem h with h | ⟨h1, h2⟩
      · exact .inl h
      · exact .inr ⟨List.mem_cons_of_mem _ h1, h2⟩
theorem cloFrom_acc {cells : List (Str × Addr)} : ∀ {names : List (Str × NameKind)} {acc : List (Str × Addr)} {p : Str × Addr}, p ∈ acc -> p ∈ cloFrom cells names acc
  | [], _, _, h => h
  | (m, k) :: r, acc, p, h => by
    unfold cloFrom
    split
    · exact cloFrom_acc (List.mem_cons_of_mem _ h)
    · exact cloFrom_acc h
theorem cloFrom_has {cells : List (Str × Addr)} : ∀ {names : List (Str × NameKind)} {acc : List (Str × Addr)} {n : Str}, (n, .free) ∈ names -> (n, (cells.lookup n).getD 0) ∈ cloFrom cells names acc
  | (m, k) :: r, acc, n, h => by
    unfold cloFrom
    rcases List.mem_cons.mp h with e | h
    · cases e
      exact cloFrom_acc List.mem_cons_self
    · split
      · exact cloFrom_has h
      · exact cloFrom_has h
theorem cells_mem : ∀ {names : List (Str × NameKind)} {h : Heap} {acc : List (Str × Addr)} {x : Str} {c : Addr}, (x, c) ∈ cellsFrom h.objs.size names acc ->
    (x, c) ∈ acc \/ ((x, .cell) ∈ names /\ h.objs.size <= c /\ CellAt (pushCells h names) c none)
  | [], _, _, _, _, h => .inl h
  | (n, k) :: r, h, acc, x, c, hm => by
    unfold cellsFrom at hm
    unfold pushCells
    split at hm
    · rename_i hk
      rw [if_pos hk]
      have hk : k = .cell := by simpa using hk
      rw [<- Heap.size_push h { cls := .type "cell", data := .cell none }] at hm
      rcases cells_mem hm with hm | ⟨h1, h2, h3⟩
      · rcases List.mem_cons.mp hm with e | hm
        · cases e
          exact .inr ⟨hk ▸ List.mem_cons_self, Nat.le_refl _, _, pushCells_keeps r _ _ _ (Heap.get?_push_size _ rfl), rfl⟩
        · exact .inl hm
      · rw [Heap.size_push] at h2
        exact .inr ⟨List.mem_cons_of_mem _ h1, Nat.le_of_succ_le h2, h3⟩
    · rename_i hk
      rw [if_neg hk]
      rcases cells_mem hm with hm | ⟨h1, h2, h3⟩
      · exact .inl hm
      · exact .inr ⟨List.mem_cons_of_mem _ h1, h2, h3⟩
theorem cells_acc : ∀ {names : List (Str × NameKind)} {n : Nat} {acc : List (Str × Addr)} {p : Str × Addr}, p ∈ acc -> p ∈ cellsFrom n names acc
  | [], _, _, _, h => h
  | (m, k) :: r, n, acc, p, h => by
    unfold cellsFrom
    split
    · exact cells_acc (List.mem_cons_of_mem _ h)
    · exact cells_acc h
theorem cells_has : ∀ {names : List (Str × NameKind)} {n : Nat} {acc : List (Str × Addr)} {x : Str}, (x, .cell) ∈ names -> ∃ c, (x, c) ∈ cellsFrom n names acc
  | (m, k) :: r, n, acc, x, h => by
    unfold cellsFrom
    rcases List.mem_cons.mp h with e | h
    · cases e
      exact ⟨n, cells_acc List.mem_cons_self⟩
    · split
      · exact cells_has h
      · exact cells_has h
theorem cells_inj : ∀ {names : List (Str × NameKind)} {h : Heap} {acc : List (Str × Addr)} {x y : Str} {c : Addr}, (∀ p ∈ acc, p.2 < h.objs.size) -> (∀ x y c, (x, c) ∈ acc -> (y, c) ∈ acc -> x = y) ->
    (x, c) ∈ cellsFrom h.objs.size names acc -> (y, c) ∈ cellsFrom h.objs.size names acc -> x = y
  | [], _, _, _, _, _, _, hi, h1, h2 => hi _ _ _ h1 h2
  | (n, k) :: r, h, acc, x, y, c, hl, hi, h1, h2 => by
    unfold cellsFrom at h1 h2
    split at h1
    · rename_i hk
      rw [if_pos hk] at h2
      rw [<- Heap.size_push h { cls := .type "cell", data := .cell none }] at h1 h2
      refine cells_inj (h := h.push _) (fun p hp => ?_) (fun x y c a b => ?_) h1 h2
      · rw [Heap.size_push]
        rcases List.mem_cons.mp hp with rfl | hp
        · exact Nat.lt_succ_self _
        · exact Nat.lt_succ_of_lt (hl p hp)
      · rcases List.mem_cons.mp a with e | a <;> rcases List.mem_cons.mp b with e' | b
        · cases e; cases e'; rfl
        · cases e; exact absurd (hl _ b) (Nat.lt_irrefl _)
        · cases e'; exact absurd (hl _ a) (Nat.lt_irrefl _)
        · exact hi _ _ _ a b
    · rename_i hk
      rw [if_neg hk] at h2
      exact cells_inj hl hi h1 h2
theorem newEnv_comp {M : Model} {A : Around} {E : Value -> Shared -> Prop} {s : Shared} {scope : Scope} {globals : Addr} {closure : List (Str × Addr)} {qual : Str} {func : Option Addr} {code : Value} {around : Env} {builtins : Addr} {Q : Env -> Shared -> Prop}
    (h : Q (newEnv scope s.heap.objs.size globals (cellsFrom (s.heap.objs.size + 1) scope.names closure) qual func code (some around) builtins)
      { s with heap := pushCells (s.heap.push { cls := .type "dict", data := .dict #[] }) scope.names }) :
    wpAny M A (newFunctionEnv scope globals closure [] qual func code (some around) builtins) Q E s := by
  simp only [newFunctionEnv, Option.isSome_some, if_true]
  refine wpAny_bind (wpAny_alloc ?_)
  refine wpAny_bind (wpAny_layCells _ (fun n k c => rfl) scope.names closure _ _ ?_)
  rw [show ({ s with heap := s.heap.push { cls := .type "dict", data := .dict #[] } } : Shared).heap.objs.size = s.heap.objs.size + 1 from Heap.size_push ..]
  rw [List.forIn_nil]
  exact wpAny_bind (wpAny_pure (wpAny_pure h))
theorem lookup_relS {sc : Scope} : ∀ {names : List (Str × NameKind)} {x : Str} {k : NameKind},
    (names.map fun (n, k) => if (k == NameKind.free && sc.kind == .function && sc.names.lookup n == some .cell) then (n, NameKind.cell) else (n, k)).lookup x = some k ->
    ∃ k', names.lookup x = some k' /\ (k = k' \/ (k' = .free /\ k = .cell))
  | [], _, _, h => by simp at h
  | (n, k₀) :: r, x, k, h => by
    have ih := @lookup_relS sc r x k
    have h' : List.lookup x ((if (k₀ == NameKind.free && sc.kind == .function && sc.names.lookup n == some .cell) = true then (n, NameKind.cell) else (n, k₀)) :: (r.map _)) = some k := h
    cases hx : x == n with
    | true =>
      simp only [List.lookup_cons, hx]
      by_cases hc : (k₀ == NameKind.free && sc.kind == .function && sc.names.lookup n == some .cell) = true
      · rw [if_pos hc] at h'
        simp only [List.lookup_cons, hx] at h'
        cases h'
        simp only [Bool.and_eq_true, beq_iff_eq] at hc
        exact ⟨k₀, rfl, .inr ⟨hc.1.1, rfl⟩⟩
      · rw [if_neg hc] at h'
        simp only [List.lookup_cons, hx] at h'
        cases h'
        exact ⟨_, rfl, .inl rfl⟩
    | false =>
      simp only [List.lookup_cons, hx]
      by_cases hc : (k₀ == NameKind.free && sc.kind == .function && sc.names.lookup n == some .cell) = true
      · rw [if_pos hc] at h'
        simp only [List.lookup_cons, hx] at h'
        exact ih h'
      · rw [if_neg hc] at h'
        simp only [List.lookup_cons, hx] at h'
        exact ih h'
structure BlkOk (N : List Str) (sc scope : Scope) (own : List (Str × Nat)) : Prop where
  kind : scope.kind = .function
  uniq : ∀ y ∈ scope.names, scope.names.lookup y.1 = some y.2
  ix : ∀ p ∈ own, N[p.2]? = some p.1
  free : ∀ y ∈ scope.names, y.2 = .free -> sc.names.lookup y.1 = some .cell \/ sc.names.lookup y.1 = some .free
  own : ∀ y ∈ scope.names, y.2 = .local \/ y.2 = .cell -> y.1 ∈ own.map (·.1) \/ y.1 ∉ N
def wipe (σ : St) : List Nat -> St
  | [] => σ
  | v :: vs => (wipe σ vs).set v none
theorem wipe_length (σ : St) : ∀ vs : List Nat, (wipe σ vs).length = σ.length
  | [] => rfl
  | v :: vs => by unfold wipe; rw [List.length_set, wipe_length σ vs]
theorem wipe_some {σ : St} {i : Nat} {x : V} : ∀ {vs : List Nat}, (wipe σ vs)[i]? = some (some x) -> σ[i]? = some (some x) /\ i ∉ vs
  | [], h => ⟨h, by simp⟩
  | v :: vs, h => by
    unfold wipe at h
    by_cases hi : v = i
    · subst hi
      by_cases hv : v < (wipe σ vs).length
      · rw [List.getElem?_set_self hv] at h; cases h
      · rw [List.getElem?_eq_none (by simpa using hv)] at h; cases h
    · rw [List.getElem?_set_ne hi] at h
      obtain ⟨h1, h2⟩ := wipe_some h
      exact ⟨h1, by simp only [List.mem_cons, not_or]; exact ⟨fun e => hi e.symm, h2⟩⟩
abbrev Cx.blk (X : Cx) (s : Shared) (H : Hp) (scope : Scope) (cenv : Env) (fp : List Addr) : Cx := { X with s_0 := s, H_0 := H, env := cenv, outer := X.stack, ex := fp, fn := fun x => scope.names.lookup x == some .cell, pn := [], xe := fun _ _ => False }
section
variable {X : Cx} {pins : List (Addr × Obj)} {σ : St} {H : Hp} {s : Shared}
theorem block_start {scope : Scope} {own : List (Str × Nat)} {fp : List Addr} (I : Inv X pins σ H s) (ok : BlkOk X.N X.env.scope scope own) (hN : X.N.Nodup) (hfp : ∀ b ∈ fp, FpOk X pins H b /\ b < s.heap.objs.size) :
    Inv (X.blk s H scope (compEnvC scope (cellsFrom (s.heap.objs.size + 1) scope.names (cloFrom X.env.cells scope.names [])) s.heap.objs.size X.env) fp) [] (wipe σ (own.map (·.2))) H { s with heap := pushCells (s.heap.push { cls := .type "dict", data := .dict #[] }) scope.names } := by
  have hfree : ∀ y ∈ scope.names, y.2 = .free -> ∃ c, X.env.cells.lookup y.1 = some c := fun y hy e => by
    rcases ok.free y hy e with k | k
    · exact I.ok.has _ (.inl k)
    · exact I.ok.has _ (.inr k)
  generalize hcenv : compEnvC scope (cellsFrom (s.heap.objs.size + 1) scope.names (cloFrom X.env.cells scope.names [])) s.heap.objs.size X.env = cenv
  have kp : ∀ b o, s.heap.get? b = some o -> (pushCells (s.heap.push { cls := .type "dict", data := .dict #[] }) scope.names).get? b = some o := fun b o e => pushCells_keeps _ _ _ _ (Heap.get?_push_of_some _ e)
  have hL : cenv.locals = s.heap.objs.size := by rw [<- hcenv]; rfl
  have hcl : cenv.cells = cellsFrom (s.heap.objs.size + 1) scope.names (cloFrom X.env.cells scope.names []) := by rw [<- hcenv]; rfl
  have hsc : cenv.scope = relS scope X.env.scope := by rw [<- hcenv]; rfl
  rw [<- Heap.size_push s.heap { cls := .type "dict", data := .dict #[] }] at hcl
  have cm : ∀ {y c}, (y, c) ∈ cloFrom X.env.cells scope.names [] -> X.env.cells.lookup y = some c /\ c < s.heap.objs.size := fun {y c} hm => by
    rcases cloFrom_mem hm with hm | ⟨h1, rfl⟩
    · cases hm
    · obtain ⟨c, hc⟩ := hfree _ h1 rfl
      rw [hc]
      obtain ⟨w, z⟩ := I.cell _ _ hc
      exact ⟨rfl, z.lt⟩
  have mem : ∀ {y c}, cenv.cells.lookup y = some c -> (X.env.cells.lookup y = some c /\ c < s.heap.objs.size) \/ (s.heap.objs.size + 1 <= c /\ CellAt (pushCells (s.heap.push { cls := .type "dict", data := .dict #[] }) scope.names) c none) := fun {y c} e => by
    rw [hcl] at e
    rcases cells_mem (PySem.mem_of_lookup e) with hm | ⟨_, h2, h3⟩
    · exact .inl (cm hm)
    · rw [Heap.size_push] at h2; exact .inr ⟨h2, h3⟩
  have look : ∀ {y}, scope.names.lookup y = some .free -> ∃ c, cenv.cells.lookup y = some c /\ X.env.cells.lookup y = some c := fun {y} hl => by
    have hy : (y, NameKind.free) ∈ scope.names := PySem.mem_of_lookup hl
    obtain ⟨c', e'⟩ := mem_lookup (cells_acc (names := scope.names) (n := (s.heap.push { cls := .type "dict", data := .dict #[] }).objs.size) (cloFrom_has (cells := X.env.cells) (acc := []) hy))
    rw [<- hcl] at e'
    refine ⟨c', e', ?_⟩
    rw [hcl] at e'
    rcases cells_mem (PySem.mem_of_lookup e') with hm | ⟨h1, _, _⟩
    · exact (cm hm).1
    · have := ok.uniq _ h1
      rw [hl] at this; cases this
  have okB : (X.blk s H scope cenv fp).Ok := by
    refine ⟨I.ok.mod, by show cenv.scope.kind = _; rw [hsc]; exact ok.kind, by show cenv.globals = _; rw [<- hcenv]; exact I.ok.glob, by show cenv.builtins = _; rw [<- hcenv]; exact I.ok.blt, by show s.heap.objs.size <= cenv.locals; rw [hL]; exact Nat.le_refl _,
      fun y z c e1 e2 => ?_, fun y hy => ?_, fun y c z e => ?_, I.ok.hd, I.ok.frames, .inl rfl, fun b hb => ⟨?_, fun y c e z => ?_⟩, I.bs, Nat.le_trans I.ok.bsz I.sz, fun b o e hb => ?_, fun b hb z => ?_, I.stack, I.stkFree⟩
    · have e1 : cenv.cells.lookup y = some c := e1
      have e2 : cenv.cells.lookup z = some c := e2
      rw [hcl] at e1 e2
      refine cells_inj (fun p hp => ?_) (fun y z c a b => I.ok.inj y z c (cm a).1 (cm b).1) (PySem.mem_of_lookup e1) (PySem.mem_of_lookup e2)
      rw [Heap.size_push]
      exact Nat.lt_succ_of_lt (cm (y := p.1) (c := p.2) hp).2
    · show ∃ c, cenv.cells.lookup y = some c
      have key : ∀ k, cenv.kindOf y = some k -> (k = .cell \/ k = .free) -> ∃ c, cenv.cells.lookup y = some c := fun k hk hk' => by
        unfold Env.kindOf at hk
        rw [hsc] at hk
        obtain ⟨k', e, r⟩ := lookup_relS hk
        have : k' = .cell \/ k' = .free := by
          rcases r with rfl | ⟨rfl, _⟩
          · exact hk'
          · exact .inr rfl
        rcases this with rfl | rfl
        · obtain ⟨c, hm⟩ := cells_has (n := (s.heap.push { cls := .type "dict", data := .dict #[] }).objs.size) (acc := cloFrom X.env.cells scope.names []) (PySem.mem_of_lookup e)
          obtain ⟨c', e'⟩ := mem_lookup hm
          exact ⟨c', by rw [hcl]; exact e'⟩
        · obtain ⟨c, h1, _⟩ := look e
          exact ⟨c, h1⟩
      rcases hy with hy | hy
      · exact key _ hy (.inl rfl)
      · exact key _ hy (.inr rfl)
    · have z : (scope.names.lookup y == some NameKind.cell) = true := z
      have z : scope.names.lookup y = some .cell := by simpa using z
      have e : cenv.cells.lookup y = some c := e
      rw [hcl] at e
      rcases cells_mem (PySem.mem_of_lookup e) with hm | ⟨_, h2, _⟩
      · rcases cloFrom_mem hm with hm | ⟨h1, _⟩
        · cases hm
        · have q := ok.uniq _ h1
          rw [z] at q; cases q
      · rw [Heap.size_push] at h2
        exact Nat.le_of_succ_le h2
    · show b ≠ cenv.locals
      rw [hL]; exact Nat.ne_of_lt (hfp b hb).2
    · have e : cenv.cells.lookup y = some c := e
      rcases mem e with ⟨h1, _⟩ | ⟨h1, _⟩
      · exact (hfp b hb).1.2.2.2.2.1 y c h1 z
      · have h2 : s.heap.objs.size + 1 <= b := by rw [<- z]; exact h1
        exact absurd (Nat.lt_of_lt_of_le (hfp b hb).2 (Nat.le_of_succ_le h2)) (Nat.lt_irrefl _)
    · rcases (hfp b hb).1.2.2.2.1 with z | z
      · exact I.ok.noex b o e z
      · exact absurd (Nat.lt_of_lt_of_le (Heap.lt_size e) (Nat.le_trans I.ok.bsz z)) (Nat.lt_irrefl _)
    · rcases List.mem_cons.mp (I.stkSub b z) with z | z
      · exact (hfp b hb).1.2.1 z
      · exact (hfp b hb).1.2.2.1 z
  refine ⟨okB, rfl, I.bare, Un.kept kp, ⟨fun _ => none, ?_, fun i y av e1 e2 e3 => ?_⟩, fun y c e => ?_, ?_, fun y c e => ?_, fun p hp => ?_, I.hok.kept kp, by rw [wipe_length]; exact I.len⟩
  · show Heap.Ns _ cenv.locals _
    rw [hL]
    exact Heap.Ns.keeps (Heap.Ns.new ..) fun b o e => pushCells_keeps _ _ _ _ e
  · obtain ⟨e2, hne⟩ := wipe_some e2
    have hfr : scope.names.lookup y = some .free /\ (cenv.kindOf y = some .cell \/ cenv.kindOf y = some .free) := by
      have key : ∀ k, cenv.scope.names.lookup y = some k -> k = .local \/ k = .cell \/ k = .free -> scope.names.lookup y = some .free /\ (cenv.kindOf y = some .cell \/ cenv.kindOf y = some .free) := fun k hk hk' => by
        have hk0 := hk
        rw [hsc] at hk
        obtain ⟨k', e, r⟩ := lookup_relS hk
        have no : ¬ (k' = .local \/ k' = .cell) := fun hh => by
          rcases ok.own _ (PySem.mem_of_lookup e) hh with e' | e'
          · obtain ⟨p, hp, hpy⟩ := List.mem_map.mp e'
            have e3 := ok.ix p hp
            have : p.1 = y := hpy
            rw [this] at e3
            exact hne (List.mem_map.mpr ⟨p, hp, nodup_ix hN e3 e1⟩)
          · exact e' (List.mem_of_getElem? e1)
        rcases r with rfl | ⟨rfl, rfl⟩
        · rcases hk' with rfl | rfl | rfl
          · exact absurd (.inl rfl) no
          · exact absurd (.inr rfl) no
          · exact ⟨e, .inr hk0⟩
        · exact ⟨e, .inl hk0⟩
      have e3 : Vis cenv.scope y := e3
      rcases e3 with e3 | e3 | e3
      · exact key _ e3 (.inl rfl)
      · exact key _ e3 (.inr (.inl rfl))
      · exact key _ e3 (.inr (.inr rfl))
    obtain ⟨m, hn, hl⟩ := I.loc
    have hvis : Vis X.env.scope y := (ok.free _ (PySem.mem_of_lookup hfr.1) rfl).elim (fun k => .inr (.inl k)) (fun k => .inr (.inr k))
    obtain ⟨w, r, q⟩ := hl i y av e1 e2 hvis
    refine ⟨w, r, .inr ⟨hfr.2, ?_⟩⟩
    obtain ⟨c, h1, h2⟩ := look hfr.1
    rcases q with ⟨k, _⟩ | ⟨_, c', e', z⟩
    · have k : X.env.scope.names.lookup y = some .local := k
      rcases ok.free _ (PySem.mem_of_lookup hfr.1) rfl with k' | k' <;> rw [show X.env.scope.names.lookup y = _ from k'] at k <;> cases k
    · rw [h2] at e'; cases e'
      exact ⟨c, h1, z.keeps kp⟩
  · have e : cenv.cells.lookup y = some c := e
    rcases mem e with ⟨h1, _⟩ | ⟨_, z⟩
    · obtain ⟨w, z⟩ := I.cell y c h1
      exact ⟨w, z.keeps kp⟩
    · exact ⟨_, z⟩
  · show H cenv.locals = none
    rw [hL]; exact I.hok.fresh (Nat.le_refl _)
  · have e : cenv.cells.lookup y = some c := e
    rcases mem e with ⟨h1, _⟩ | ⟨h1, _⟩
    · exact I.freeC y c h1
    · exact I.hok.fresh (Nat.le_of_succ_le h1)
  · exact absurd (show p ∈ ([] : List (Addr × Obj)) ++ [] from hp) (by simp)
theorem app_ok {E : Value -> Shared -> Prop} {D : Addr} {xs : List V} {y : V} {v : Value} {Q : Value -> Shared -> Prop} (I : Inv X pins σ H s) (hD : H D = some (.lst xs)) (hz : xs.length < sizeLine) (r : RelV y v)
    (h : ∀ s', Inv X pins σ (upd H D (.lst (xs ++ [y]))) s' -> Q .none s') : wpAny (model X.prog X.w) X.A (call (.builtin "list.append") [.ref D, v]) Q E s := by
  obtain ⟨hz', its, n, ri, e⟩ := I.hok D _ hD
  have hl := ri.length
  refine append_at (hsz := by rw [List.size_toArray]; omega) e fun h' sb ho' => ?_
  refine h { s with heap := h' } (I.write (t' := s.toks) (by rw [hD]; trivial) (.inl rfl) (fun b u hb q => (sb.2 b hb).trans q) ⟨_, ho'⟩ ⟨by rw [List.length_append]; exact hz, its ++ [v], n + 1, ri.append (.cons r .nil), ?_⟩)
  rw [ho']
  simp
def PTs (X : Cx) (ifs : List Expr) (t : TT) : Prop :=
  ∀ (pins : List (Addr × Obj)) (s : Shared) (σ : St) (H : Hp) (Q : Bool -> Hp -> Prop), Inv X pins σ H s -> t σ H Q ->
    wpAny (model X.prog X.w) X.A (forIn ifs true fun c r => if r = true then do let ok <- isTrue c X.env (eval c X.env); pure (ForInStep.yield ok) else pure (ForInStep.yield r)) (TP X pins σ Q) X.xe s
def tYes : TT := fun _ H Q => Q true H
theorem pts_nil : PTs X [] tYes := fun _ _ _ H _ I h => wpAny_tests_nil ⟨H, I, h⟩
end
theorem thnF {α : Type} {t : Sem α} {Q Q' : α -> Shared -> Prop} {M : Model} {A : Around} {E : Value -> Shared -> Prop} {s : Shared} (h : wpAny M A t Q (fun _ _ => False) s) (hQ : ∀ a s, Q a s -> Q' a s) : wpAny M A t Q' E s := wpAny_mono h hQ fun _ _ z => False.elim z
theorem compLoop_any {prog : Program} {w : World} {A : Around} {R : Result -> Shared -> Prop} {s : Shared} {elt target iter : Expr} {ifs : List Expr} {scope : Scope} {pos : Pos} {it acc : Value} {env : Env} (I : Nat -> Shared -> Prop)
    (turn : ∀ n s, I n s -> wpAny (model prog w) A (pyNext it) (fun r s₁ => match r with
      | none => R (.ok .next) s₁
      | some v => wpAny (model prog w) A (letOwnedTupleGo target it v) (fun _ s₁' => wpAny (model prog w) A (assign target env v) (fun _ s₂ =>
          wpAny (model prog w) A (forIn ifs true fun c r => if r = true then do let ok <- isTrue c env (eval c env); pure (ForInStep.yield ok) else pure (ForInStep.yield r)) (fun ok s₃ =>
            if ok = true then wpAny (model prog w) A (eval elt env) (fun x s₄ =>
              wpAny (model prog w) A (call (.builtin "list.append") [acc, x]) (fun _ s₅ => ∃ m, m < n /\ I m s₅) (notedBy (model prog w) A env fun e s' => R (.error e) s') s₄) (notedBy (model prog w) A env fun e s' => R (.error e) s') s₃
            else ∃ m, m < n /\ I m s₃) (notedBy (model prog w) A env fun e s' => R (.error e) s') s₂) (notedBy (model prog w) A env fun e s' => R (.error e) s') s₁') (notedBy (model prog w) A env fun e s' => R (.error e) s') s₁) (notedBy (model prog w) A env fun e s' => R (.error e) s') s)
    (n : Nat) (h : I n s) :
    codeAny (model prog w) A (.compLoop (.ListComp elt [⟨target, iter, ifs, 0⟩] scope pos) 0 it acc env) R s := by
  refine codeAny_loop rfl I (fun n s hI => ?_) n h
  show wpAny _ A ((compTurn (.ListComp elt [⟨target, iter, ifs, 0⟩] scope pos) 0 it acc env).onRaise (fun x => do noteFrame x env; theTreesLotGoes x)) _ _ s
  refine wpAny_noted ?_
  rw [compTurn_list]
  refine wpAny_bind (wpAny_standAt (wpAny_bind (wpAny_mono (turn n s hI) (fun r s₁ h₁ => ?_) fun _ _ h' => h')))
  cases r with
  | none => exact wpAny_pure h₁
  | some v =>
    refine wpAny_bind (wpAny_mono h₁ (fun _ s₁' h₁' => ?_) fun _ _ h' => h')
    refine wpAny_bind (wpAny_mono h₁' (fun _ s₂ h₂ => wpAny_bind (wpAny_mono h₂ (fun ok s₃ h₃ => ?_) fun _ _ h' => h')) fun _ _ h' => h')
    cases ok with
    | false => exact wpAny_pure ⟨rfl, h₃⟩
    | true =>
      exact wpAny_bind (wpAny_bind (wpAny_mono h₃ (fun x s₄ h₄ => wpAny_bind (wpAny_mono h₄ (fun _ s₅ h₅ => wpAny_pure (wpAny_pure ⟨rfl, h₅⟩)) fun _ _ h' => h')) fun _ _ h' => h'))
section
variable {X : Cx}
def tLc (wi : TI) (g : TG) (tt : TT) (te : TE) (vs : List Nat) : TE := fun σ H Q => wi σ H fun J H1 => ∀ D, H1 D = none -> ∃ W : Nat -> Nat -> Hp -> Prop, (∃ m, W 0 m (upd H1 D (.lst []))) /\ ∀ i m H, W i m H ->
  (J.stop i H /\ Q (.ref D) H) \/ (J.go i H /\ ∃ Nx : Hp -> Prop, (∀ H', Nx H' -> ∃ m', m' < m /\ W (i + 1) m' H') /\ ∀ x H', J.yld i H x H' -> g x (wipe σ vs) H' fun σ2 H2 => wipe σ2 vs = wipe σ vs /\ tt σ2 H2 fun b H3 =>
    if b = true then te σ2 H3 fun y H4 => ∃ acc, H4 D = some (.lst acc) /\ acc.length < sizeLine /\ Nx (upd H4 D (.lst (acc ++ [y]))) else Nx H3)
theorem lc_core {pins : List (Addr × Obj)} {s : Shared} {σ : St} {H : Hp} {Q : VK} {elt tg iter : Expr} {ifs : List Expr} {scope : Scope} {own : List (Str × Nat)} {pos pos' : Pos} {wi : TI} {g : TG} {tt : TT} {te : TE} {use : Option (Value -> Sem Unit)} {Qf : Value -> Shared -> Prop}
    (hc : X.calm = true) (hN : X.N.Nodup) (I : Inv X pins σ H s) (hi : PI X tg iter wi) (ok : BlkOk X.N X.env.scope scope own)
    (hg : ∀ (s : Shared) (H : Hp) (C : Addr) (cl : List (Str × Addr)) (fp : List Addr), PG (X.blk s H scope (compEnvC scope cl C X.env) fp) tg g) (ht : ∀ (s : Shared) (H : Hp) (C : Addr) (cl : List (Str × Addr)) (fp : List Addr), PTs (X.blk s H scope (compEnvC scope cl C X.env) fp) ifs tt)
    (he : ∀ (s : Shared) (H : Hp) (C : Addr) (cl : List (Str × Addr)) (fp : List Addr), PE (X.blk s H scope (compEnvC scope cl C X.env) fp) elt te) (hs : ∀ x, foldedSetIterable iter X.env x = pure x)
    (h : tLc wi g tt te (own.map (·.2)) σ H Q)
    (hRR : ∀ D C s' m H', Inv X pins σ H' s' -> Q (.ref D) H' -> s'.heap.Ns C m -> FpOk X pins H' C -> compPost (model X.prog X.w) X.A X.xe use Qf (.ref D) C (.ok .next) s') :
    wpAny (model X.prog X.w) X.A (comprehension (.ListComp elt [⟨tg, iter, ifs, 0⟩] scope pos) scope X.env pos' (newList []) false (eval iter X.env) use) Qf X.xe s := by
  have hfree : ∀ y ∈ scope.names, y.2 = .free -> ∃ c, X.env.cells.lookup y.1 = some c := fun y hy e => by
    rcases ok.free y hy e with k | k
    · exact I.ok.has _ (.inl k)
    · exact I.ok.has _ (.inr k)
  refine wpAny_comprehension_free (use := use) rfl hs (closure_ok hfree) ok.kind (fun y hy e => by rw [ok.uniq y hy, e])
    (thn (hi pins s σ H _ I h) fun xv s1 hx => thn hx fun itv s2 h2 => ?_)
  obtain ⟨it, fp, tn, J, H2, e, I2, T, st2, f2, q⟩ := h2
  subst e
  refine wpAny_newObj_type (newEnv_comp ?_) (by show 0 <= sizeLine; decide)
  generalize hD : s2.heap.objs.size = D
  have hDn : H2 D = none := I2.hok.fresh (Nat.le_of_eq hD)
  obtain ⟨W, ⟨m0, w0⟩, turn⟩ := q D hDn
  generalize hs3 : ({ s2 with heap := s2.heap.push { cls := .type "list", data := .seq ([] : List Value).toArray } } : Shared) = s3
  have I3 : Inv X pins σ (upd H2 D (.lst [])) s3 := by
    rw [<- hs3]
    refine I2.laid (t' := s2.toks) (fun b o e => Heap.get?_push_of_some _ e) (Nat.le_of_eq hD) ⟨Nat.zero_le _, [], 0, .nil, ?_⟩
    rw [<- hD]
    exact Heap.get?_push_size _ rfl
  have h3 : s3.heap = s2.heap.push { cls := .type "list", data := .seq ([] : List Value).toArray } := by rw [<- hs3]
  have sz : ∀ b ∈ fp, b < s2.heap.objs.size := fun b hb => by
    obtain ⟨o, e, _⟩ := T.obj _ _ st2 b hb
    exact Heap.lt_size e
  have f3 : ∀ b ∈ fp, FpOk X pins (upd H2 D (.lst [])) b /\ b < s3.heap.objs.size := fun b hb => by
    have hlt := sz b hb
    refine ⟨⟨?_, (f2 b hb).2⟩, by rw [h3, Heap.size_push]; exact Nat.lt_succ_of_lt hlt⟩
    rw [upd_ne (by rw [<- hD]; exact Nat.ne_of_lt hlt)]
    exact (f2 b hb).1
  have st3 : tn 0 s3.heap := T.keep _ _ _ st2 fun b _ o e => by rw [h3]; exact Heap.get?_push_of_some _ e
  have I4 := block_start I3 ok hN f3
  have pg := hg s3 (upd H2 D (.lst [])) s3.heap.objs.size (cellsFrom (s3.heap.objs.size + 1) scope.names (cloFrom X.env.cells scope.names [])) fp
  have pt := ht s3 (upd H2 D (.lst [])) s3.heap.objs.size (cellsFrom (s3.heap.objs.size + 1) scope.names (cloFrom X.env.cells scope.names [])) fp
  have pe := he s3 (upd H2 D (.lst [])) s3.heap.objs.size (cellsFrom (s3.heap.objs.size + 1) scope.names (cloFrom X.env.cells scope.names [])) fp
  show codeAny _ _ (.compStart (.ListComp elt [⟨tg, iter, ifs, 0⟩] scope pos) 0 (.ref it) (.ref D) (compEnvC scope (cellsFrom (s3.heap.objs.size + 1) scope.names (cloFrom X.env.cells scope.names [])) s3.heap.objs.size X.env)) (compPost (model X.prog X.w) X.A X.xe use Qf (.ref D) s3.heap.objs.size) { s3 with heap := pushCells (s3.heap.push { cls := .type "dict", data := .dict #[] }) scope.names }
  have nfp : ∀ b ∈ fp, (upd H2 D (.lst [])) b = none := fun b hb => (f3 b hb).1.1
  generalize hce : compEnvC scope (cellsFrom (s3.heap.objs.size + 1) scope.names (cloFrom X.env.cells scope.names [])) s3.heap.objs.size X.env = ce at I4 pg pt pe ⊢
  have cL : ce.locals = s3.heap.objs.size := by subst hce; rfl
  generalize hH3 : upd H2 D (.lst []) = H3 at I3 I4 pg pt pe w0 nfp f3
  generalize hs4 : ({ s3 with heap := pushCells (s3.heap.push { cls := .type "dict", data := .dict #[] }) scope.names } : Shared) = s4 at I4 ⊢
  have st4 : tn 0 s4.heap := T.keep _ _ _ st3 fun b _ o e => by rw [<- hs4]; exact pushCells_keeps _ _ _ _ (Heap.get?_push_of_some _ e)
  have stat : ∀ {σ' : St} {H' : Hp} {s' : Shared}, Inv (X.blk s3 H3 scope ce fp) [] σ' H' s' -> (∀ b ∈ fp, H' b = none) -> ∀ b ∈ fp, FpOk (X.blk s3 H3 scope ce fp) [] H' b := fun {σ' H' s'} I' hn b hb =>
    ⟨hn b hb, (I'.ok.exf b hb).1, I'.ok.exfs b hb, .inl hb, fun x c e => (I'.ok.exf b hb).2 x c e, fun p hp => absurd (show p ∈ ([] : List (Addr × Obj)) ++ [] from hp) (by simp)⟩
  have loop : codeAny (model X.prog X.w) X.A (.compLoop (.ListComp elt [⟨tg, iter, ifs, 0⟩] scope pos) 0 (.ref it) (.ref D) ce) (compPost (model X.prog X.w) X.A X.xe use Qf (.ref D) s3.heap.objs.size) s4 := by
    refine compLoop_any (fun n s' => ∃ i H', Inv (X.blk s3 H3 scope ce fp) [] (wipe σ (own.map (·.2))) H' s' /\ tn i s'.heap /\ (∀ b ∈ fp, H' b = none) /\ W i n H') ?_ m0 ⟨0, H3, I4, st4, nfp, w0⟩
    rintro n s5 ⟨i, H5, I5, st5, n5, w5⟩
    rcases turn i n H5 w5 with ⟨stop, qq⟩ | ⟨go, Nx, hNx, step⟩
    · have td := T.done (X.blk s3 H3 scope ce fp) rfl rfl rfl hc i [] s5 _ H5 (fun _ _ => False) I5 (stat I5 n5) st5 stop
      refine thnF td fun r s6 ⟨hr, I6⟩ => ?_
      subst hr
      have I7 : Inv X pins σ H5 s6 := I3.call' (ch := fp) I6.os I6.base I6.hok I6.bare fun b hb => ⟨(f3 b hb).1.2.2.2.1, (f3 b hb).1.2.1, (f3 b hb).1.2.2.2.2.1, (f3 b hb).1.2.2.2.2.2⟩
      have nC : H5 s3.heap.objs.size = none := by
        have z : H5 ce.locals = none := I6.free
        rw [cL] at z
        exact z
      obtain ⟨m, hn, _⟩ := I6.loc
      have hn : s6.heap.Ns ce.locals m := hn
      rw [cL] at hn
      exact hRR D s3.heap.objs.size s6 m H5 I7 qq hn (I3.fpOk (Nat.le_refl _) nC)
    · have ti := T.item (X.blk s3 H3 scope ce fp) rfl rfl rfl hc i [] s5 _ H5 (fun _ _ => False) I5 (stat I5 n5) st5 go
      refine thnF ti fun r s6 ⟨u, hr, h6⟩ => ?_
      subst hr
      refine thnF h6 fun _ s7 ⟨x, H7, I7, r7, y7, st7, n7⟩ => ?_
      have I7' := I7.pinned (stat I7 n7) (T.obj _ _ st7)
      refine thnF (pg _ s7 _ H7 x u _ I7' r7 (step x H7 y7)) fun _ s8 ⟨σ8, H8, I8, hw8, q8⟩ => ?_
      refine thnF (pt _ s8 σ8 H8 _ I8 q8) fun b s9 ⟨H9, I9, q9⟩ => ?_
      have fin : ∀ {s' : Shared} {H' : Hp}, Inv (X.blk s3 H3 scope ce fp) ([] ++ pinsAt fp s7.heap) σ8 H' s' -> Nx H' -> ∃ m, m < n /\ ∃ i H', Inv (X.blk s3 H3 scope ce fp) [] (wipe σ (own.map (·.2))) H' s' /\ tn i s'.heap /\ (∀ b ∈ fp, H' b = none) /\ W i m H' := fun {s' H'} I' nx => by
        obtain ⟨m', hm, w'⟩ := hNx H' nx
        have pin' : ∀ b ∈ fp, ∀ o, s7.heap.get? b = some o -> s'.heap.get? b = some o /\ H' b = none := fun b hb o e =>
          let z := I'.pin (b, o) (List.mem_append_right _ (List.mem_append_right _ (mem_pinsAt hb e)))
          ⟨z.1, z.2.1⟩
        have hl : (wipe σ (own.map (·.2))).length = σ8.length := by rw [<- hw8, wipe_length]
        refine ⟨m', hm, i + 1, H', (I'.unpinned (pins := [])).weak hl (fun j v e => ?_), T.keep _ _ _ st7 fun b hb o e => (pin' b hb o e).1, fun b hb => ?_, w'⟩
        · rw [<- hw8] at e
          exact (wipe_some e).1
        · obtain ⟨o, e, _⟩ := T.obj _ _ st7 b hb
          exact (pin' b hb o e).2
      cases b with
      | false =>
        simp only [Bool.false_eq_true, if_false] at q9 ⊢
        exact fin I9 q9
      | true =>
        simp only [if_true] at q9 ⊢
        refine thnF (pe _ s9 σ8 H9 _ I9 q9) fun z s10 ⟨yv, H10, I10, r10, acc, hD10, hz10, nx⟩ => ?_
        exact app_ok (X := X.blk s3 H3 scope ce fp) I10 hD10 hz10 r10 fun s11 I11 => fin I11 nx
  exact codeAny_compStart_list loop (T.self X.A 0 _ _ _ st4 loop)
theorem pe_lc {elt tg iter : Expr} {ifs : List Expr} {scope : Scope} {own : List (Str × Nat)} {pos : Pos} {wi : TI} {g : TG} {tt : TT} {te : TE} (hc : X.calm = true) (hN : X.N.Nodup) (hi : PI X tg iter wi) (ok : BlkOk X.N X.env.scope scope own)
    (hg : ∀ (s : Shared) (H : Hp) (C : Addr) (cl : List (Str × Addr)) (fp : List Addr), PG (X.blk s H scope (compEnvC scope cl C X.env) fp) tg g) (ht : ∀ (s : Shared) (H : Hp) (C : Addr) (cl : List (Str × Addr)) (fp : List Addr), PTs (X.blk s H scope (compEnvC scope cl C X.env) fp) ifs tt)
    (he : ∀ (s : Shared) (H : Hp) (C : Addr) (cl : List (Str × Addr)) (fp : List Addr), PE (X.blk s H scope (compEnvC scope cl C X.env) fp) elt te) (hs : ∀ x, foldedSetIterable iter X.env x = pure x := by intro _; rfl) :
    PE X (.ListComp elt [⟨tg, iter, ifs, 0⟩] scope pos) (tLc wi g tt te (own.map (·.2))) := by
  intro pins s σ H Q I h
  rw [eval_ListComp]
  refine lc_core hc hN I hi ok hg ht he hs h fun D C s' m H' I' q hn f => ⟨m, hn, fun h'' sb => ?_⟩
  obtain ⟨f0, f1, f2, f3, f4, f5⟩ := f
  exact ⟨.ref D, H', I'.turned (t' := s'.toks) (fun b o hb e => (sb.2 b hb).trans e) f0 f1 f3 f4 f5, rfl, q⟩
end
theorem lc_list {K : PySem.W.Frag} {a : Addr} {xs : List V} {g : TG} {tt : TT} {te : TE} {vs : List Nat} {σ : St} {H1 : Hp} {D : Addr} {Qd : Hp -> Prop} (Pv : Nat -> Hp -> Prop) (h0 : Pv 0 (upd H1 D (.lst []))) (hl : ∀ i H, i <= xs.length -> Pv i H -> SqL K H a xs)
    (hs : ∀ i x H, xs[i]? = some x -> Pv i H -> g x (wipe σ vs) H fun σ2 H2 => wipe σ2 vs = wipe σ vs /\ tt σ2 H2 fun b H3 =>
      if b = true then te σ2 H3 fun y H4 => ∃ acc, H4 D = some (.lst acc) /\ acc.length < sizeLine /\ Pv (i + 1) (upd H4 D (.lst (acc ++ [y]))) else Pv (i + 1) H3) (hd : ∀ H, Pv xs.length H -> Qd H) :
    ∃ W : Nat -> Nat -> Hp -> Prop, (∃ m, W 0 m (upd H1 D (.lst []))) /\ ∀ i m H, W i m H ->
      ((Itl K a).stop i H /\ Qd H) \/ ((Itl K a).go i H /\ ∃ Nx : Hp -> Prop, (∀ H', Nx H' -> ∃ m', m' < m /\ W (i + 1) m' H') /\ ∀ x H', (Itl K a).yld i H x H' -> g x (wipe σ vs) H' fun σ2 H2 => wipe σ2 vs = wipe σ vs /\ tt σ2 H2 fun b H3 =>
        if b = true then te σ2 H3 fun y H4 => ∃ acc, H4 D = some (.lst acc) /\ acc.length < sizeLine /\ Nx (upd H4 D (.lst (acc ++ [y]))) else Nx H3) := by
  refine ⟨fun i m H => m = xs.length - i /\ i <= xs.length /\ Pv i H, ⟨xs.length, by simp, Nat.zero_le _, h0⟩, ?_⟩
  rintro i m H ⟨rfl, hi, p⟩
  have q := hl i H hi p
  by_cases hlt : i < xs.length
  · refine .inr ⟨⟨xs, xs[i], q, by simp [hlt]⟩, Pv (i + 1), fun H' p' => ⟨xs.length - (i + 1), by omega, rfl, hlt, p'⟩, fun x H' y => ?_⟩
    obtain ⟨e, y⟩ := y
    subst e
    exact hs i x _ (y xs q) p
  · have e : i = xs.length := by omega
    subst e
    exact .inl ⟨⟨xs, q, Nat.le_refl _⟩, hd H p⟩
def blkC (N : List Str) (sc scope : Scope) (own : List (Str × Nat)) : Bool :=
  (match scope.kind with | .function => true | _ => false) && (scope.names.all fun y => decide (scope.names.lookup y.1 = some y.2)) && (own.all fun p => decide (N[p.2]? = some p.1)) &&
    (scope.names.all fun y => match y.2 with
      | .free => (match sc.names.lookup y.1 with | some .cell => true | some .free => true | _ => false)
      | .local => decide (y.1 ∈ own.map (·.1)) || decide (y.1 ∉ N)
      | .cell => decide (y.1 ∈ own.map (·.1)) || decide (y.1 ∉ N)
      | _ => true)
theorem blkOk_by {N : List Str} {sc scope : Scope} {own : List (Str × Nat)} (h : blkC N sc scope own = true) : BlkOk N sc scope own := by
  unfold blkC at h
  simp only [Bool.and_eq_true, List.all_eq_true, decide_eq_true_eq] at h
  obtain ⟨⟨⟨h1, h2⟩, h3⟩, h4⟩ := h
  refine ⟨?_, h2, h3, fun y hy e => ?_, fun y hy e => ?_⟩
  · split at h1
    · assumption
    · cases h1
  · have q := h4 y hy
    simp only [e] at q
    split at q <;> first | exact .inl (by assumption) | exact .inr (by assumption) | cases q
  · have q := h4 y hy
    rcases e with e | e <;> (simp only [e, Bool.or_eq_true, decide_eq_true_eq] at q; exact q)
end L2
namespace L2
open PySem PySem.Spec PyProof.Rows
section
variable {prog : Program} {w : World} {A : Around} {R : Result -> Shared -> Prop} {s : Shared} {elt t0 i0 t1 i1 : Expr} {ifs0 ifs1 : List Expr} {scope : Scope} {pos : Pos} {it acc : Value} {env : Env}
end
section
variable {X : Cx}
end
end L2
namespace L2
open PySem PySem.Spec PyProof.Rows
section
variable {κ : Type} [DecidableEq κ]
def valV (kvs : List (κ × V)) (k : κ) : Option V := (kvs.find? fun kv => decide (kv.1 = k)).map (·.2)
def putK (kvs : List (κ × V)) (k : κ) (v : V) : List (κ × V) :=
  if (kvs.any fun kv => decide (kv.1 = k)) = true then kvs.map (fun kv => if kv.1 = k then (kv.1, v) else kv) else kvs ++ [(k, v)]
theorem valV_pos {p : κ × V} {r : List (κ × V)} {k : κ} (e : p.1 = k) : valV (p :: r) k = some p.2 := by simp [valV, List.find?_cons, e]
theorem valV_neg {p : κ × V} {r : List (κ × V)} {k : κ} (e : ¬ p.1 = k) : valV (p :: r) k = valV r k := by simp [valV, List.find?_cons, e]
theorem valV_any (k : κ) : ∀ kvs : List (κ × V), (kvs.any fun kv => decide (kv.1 = k)) = (valV kvs k).isSome
  | [] => rfl
  | p :: r => by
    rw [List.any_cons]
    by_cases e : p.1 = k
    · simp only [valV_pos e, decide_eq_true e, Bool.true_or, Option.isSome_some]
    · rw [valV_neg e, decide_eq_false e, Bool.false_or]; exact valV_any k r
theorem length_putK (kvs : List (κ × V)) (k : κ) (v : V) : (putK kvs k v).length <= kvs.length + 1 := by
  unfold putK
  split
  · rw [List.length_map]; omega
  · rw [List.length_append, List.length_cons, List.length_nil]; omega
theorem putK_new {kvs : List (κ × V)} {k : κ} (v : V) (h : valV kvs k = none) : putK kvs k v = kvs ++ [(k, v)] := by
  unfold putK
  rw [valV_any, h]
  exact if_neg (by decide)
theorem RelO.isSome_eq {o : Option V} {u : Option Value} (r : RelO o u) : o.isSome = u.isSome := by
  cases o with
  | none => cases u with
    | none => rfl
    | some _ => exact (show False from r).elim
  | some _ => cases u with
    | none => exact (show False from r).elim
    | some _ => rfl
theorem RelO.getD {o : Option V} {u : Option Value} {d : V} {d' : Value} (r : RelO o u) (rd : RelV d d') : RelV (o.getD d) (u.getD d') := by
  cases o with
  | none => cases u with
    | none => exact rd
    | some _ => exact (show False from r).elim
  | some _ => cases u with
    | none => exact (show False from r).elim
    | some _ => exact r
theorem KV.val {kvs : List (κ × V)} {vs : List (κ × Value)} (r : KV kvs vs) (k : κ) : RelO (valV kvs k) (valueAt vs k) := by
  unfold KV at r
  induction r with
  | nil => exact True.intro
  | @cons p q ps qs h t ih =>
    obtain ⟨h1, h2⟩ := h
    by_cases e : p.1 = k
    · have e' : q.1 = k := h1.symm.trans e
      have b : valueAt (q :: qs) k = some q.2 := by simp [valueAt, List.find?_cons, e']
      rw [valV_pos e, b]; exact h2
    · have e' : ¬ q.1 = k := fun z => e (h1.trans z)
      have b : valueAt (q :: qs) k = valueAt qs k := by simp [valueAt, List.find?_cons, e']
      rw [valV_neg e, b]; exact ih
theorem KV.any {kvs : List (κ × V)} {vs : List (κ × Value)} (r : KV kvs vs) (k : κ) : (kvs.any fun kv => decide (kv.1 = k)) = vs.any fun kv => decide (kv.1 = k) := by
  unfold KV at r
  induction r with
  | nil => rfl
  | cons h t ih => rw [List.any_cons, List.any_cons, ih, h.1]
theorem KV.repl {kvs : List (κ × V)} {vs : List (κ × Value)} (r : KV kvs vs) (k : κ) {y : V} {u : Value} (ry : RelV y u) :
    KV (kvs.map fun kv => if kv.1 = k then (kv.1, y) else kv) (vs.map fun kv => if kv.1 = k then (kv.1, u) else kv) := by
  unfold KV at r ⊢
  induction r with
  | nil => exact .nil
  | @cons p q ps qs h t ih =>
    rw [List.map_cons, List.map_cons]
    refine .cons ?_ ih
    obtain ⟨h1, h2⟩ := h
    by_cases e : p.1 = k
    · rw [if_pos e, if_pos (h1.symm.trans e)]; exact ⟨h1, ry⟩
    · rw [if_neg e, if_neg (fun z => e (h1.trans z))]; exact ⟨h1, h2⟩
theorem KV.put {kvs : List (κ × V)} {vs : List (κ × Value)} (r : KV kvs vs) (k : κ) {y : V} {u : Value} (ry : RelV y u) : KV (putK kvs k y) (stored vs k u) := by
  unfold putK stored
  rw [r.any k]
  by_cases e : (vs.any fun kv => decide (kv.1 = k)) = true
  · rw [if_pos e, if_pos e]; exact r.repl k ry
  · rw [if_neg e, if_neg e]; exact Paired.snoc r ⟨rfl, ry⟩
theorem KV.length {kvs : List (κ × V)} {vs : List (κ × Value)} (r : KV kvs vs) : kvs.length = vs.length := Paired.length r
end
theorem kV_is {P : Program} {w : World} {k : Key} {u : Value} (r : RelV (kV k) u) : (mixKind P w).is k u = true := by
  cases k with
  | inl i => obtain ⟨t, e⟩ := (show ∃ t, u = Value.int i t from r); subst e; exact mixKind_int P w i t
  | inr x => obtain ⟨t, e⟩ := (show ∃ t, u = Value.str x t from r); subst e; exact mixKind_str P w x t
theorem items_are {P : Program} {w : World} : ∀ {ks : List Key} {us : List Value}, Vals (ks.map kV) us -> ItemsAre (mixKind P w) ks us
  | [], _, r => by rw [List.map_nil] at r; cases r; exact .nil
  | k :: ks, _, r => by
    rw [List.map_cons] at r
    cases r with
    | cons h t => exact .cons (kV_is h) (items_are t)
abbrev KT (H : Hp) : List (List Key × V) -> List (List Key × Addr × Value) -> Prop := Paired fun p q => p.1 = q.1 /\ H q.2.1 = some (.tup (p.1.map kV)) /\ RelV p.2 q.2.2
theorem KT.val {H : Hp} {kvs : List (List Key × V)} {xs : List (List Key × Addr × Value)} (r : KT H kvs xs) (k : List Key) : RelO (valV kvs k) ((atKey xs k).map (·.2)) := by
  induction r with
  | nil => exact True.intro
  | @cons p q ps qs h t ih =>
    obtain ⟨h1, _, h2⟩ := h
    by_cases e : p.1 = k
    · have e' : q.1 = k := h1.symm.trans e
      have b : atKey (q :: qs) k = some q.2 := by simp [atKey, List.find?_cons, e']
      rw [valV_pos e, b]; exact h2
    · have e' : ¬ q.1 = k := fun z => e (h1.trans z)
      have b : atKey (q :: qs) k = atKey qs k := by simp [atKey, List.find?_cons, e']
      rw [valV_neg e, b]; exact ih
theorem KT.repl {H : Hp} {kvs : List (List Key × V)} {xs : List (List Key × Addr × Value)} (r : KT H kvs xs) (k : List Key) {y : V} {u : Value} (ry : RelV y u) :
    KT H (kvs.map fun kv => if kv.1 = k then (kv.1, y) else kv) (xs.map (putAt k u)) := by
  induction r with
  | nil => exact .nil
  | @cons p q ps qs h t ih =>
    rw [List.map_cons, List.map_cons]
    refine .cons ?_ ih
    obtain ⟨h1, h2, h3⟩ := h
    unfold putAt
    by_cases e : p.1 = k
    · rw [if_pos e, if_pos (h1.symm.trans e)]; exact ⟨h1, h2, ry⟩
    · rw [if_neg e, if_neg (fun z => e (h1.trans z))]; exact ⟨h1, h2, h3⟩
theorem KT.put {H : Hp} {kvs : List (List Key × V)} {xs : List (List Key × Addr × Value)} (r : KT H kvs xs) (k : List Key) {b : Addr} {y : V} {u : Value} (hb : H b = some (.tup (k.map kV))) (ry : RelV y u) :
    KT H (putK kvs k y) (storedH xs k b u) := by
  have e : (kvs.any fun kv => decide (kv.1 = k)) = (atKey xs k).isSome := by
    rw [valV_any, (r.val k).isSome_eq, Option.isSome_map]
  unfold putK storedH
  rw [e]
  by_cases q : (atKey xs k).isSome = true
  · rw [if_pos q, if_pos q]; exact r.repl k ry
  · rw [if_neg q, if_neg q]; exact Paired.snoc r ⟨rfl, hb, ry⟩
theorem KT.keeps {H H' : Hp} {kvs : List (List Key × V)} {xs : List (List Key × Addr × Value)} (r : KT H kvs xs) (ht : ∀ b ys, H b = some (.tup ys) -> H' b = some (.tup ys)) : KT H' kvs xs :=
  Paired.mapP r fun _ _ z => ⟨z.1, ht _ _ z.2.1, z.2.2⟩
section
variable {P : Program} {w : World} {H : Hp} {h : Heap} {a : Addr}
theorem rd_of {u : HO} (ok : HOk P w H h) (e : Rd H a u) : ObjOk P w H h a u := e.ok ok
theorem dk_rd {kvs : List (Key × V)} (ok : HOk P w H h) (e : Rd H a (.dK kvs)) : kvs.length <= sizeLine /\ (a == sysModules) = false /\ ∃ vs, KV kvs vs /\ h.DictOf (mixKind P w) a vs :=
  show ObjOk P w H h a (.dK kvs) from rd_of ok e
theorem dk_of {kvs : List (Key × V)} (ok : HOk P w H h) (e : H a = some (.dK kvs)) : kvs.length <= sizeLine /\ (a == sysModules) = false /\ ∃ vs, KV kvs vs /\ h.DictOf (mixKind P w) a vs := dk_rd ok (.inl e)
theorem key_of {ks : List Key} (ok : HOk P w H h) (e : H a = some (.tup (ks.map kV))) : (tupleKind (mixKind P w)).is h ks a := by
  obtain ⟨_, its, r, o, h1, h2, n, h3⟩ := (show ObjOk P w H h a (.tup (ks.map kV)) from ok a _ e)
  exact ⟨o, its.toArray, n, h1, h2, h3, by simpa using items_are r⟩
theorem dt_rd {kvs : List (List Key × V)} (ok : HOk P w H h) (e : Rd H a (.dT kvs)) : kvs.length <= sizeLine /\ (a == sysModules) = false /\
    ∃ xs, KT H kvs xs /\ h.DictOfH (tupleKind (mixKind P w)) a xs := by
  obtain ⟨z, y, xs, r, o, es, ep, h1, h2, h3, h4, h5⟩ := (show ObjOk P w H h a (.dT kvs) from rd_of ok e)
  refine ⟨z, y, xs, r, o, es, ep, h1, h2, h3, h4, fun x hx => ?_, h5⟩
  have all : ∀ {l : List (List Key × V)} {m : List (List Key × Addr × Value)}, KT H l m -> ∀ x ∈ m, (tupleKind (mixKind P w)).is h x.1 x.2.1 := by
    intro l m q
    induction q with
    | nil => intro x hx; exact nomatch hx
    | @cons p q ps qs hq t ih =>
      intro x hx
      rcases List.mem_cons.mp hx with e | hx
      · subst e
        exact key_of ok (by rw [<- hq.1]; exact hq.2.1)
      · exact ih x hx
  exact all r x hx
theorem dt_of {kvs : List (List Key × V)} (ok : HOk P w H h) (e : H a = some (.dT kvs)) : kvs.length <= sizeLine /\ (a == sysModules) = false /\
    ∃ xs, KT H kvs xs /\ h.DictOfH (tupleKind (mixKind P w)) a xs := dt_rd ok (.inl e)
end
def DGet (H : Hp) (a : Addr) (y : V) (r : Option V) : Prop :=
  (∃ kvs k, Rd H a (.dK kvs) /\ y = kV k /\ r = valV kvs k) \/ ∃ kvs k b, Rd H a (.dT kvs) /\ y = .ref b /\ H b = some (.tup (k.map kV)) /\ r = valV kvs k
def DPut (H : Hp) (a : Addr) (y v : V) (H' : Hp) : Prop :=
  (∃ kvs k, H a = some (.dK kvs) /\ y = kV k /\ kvs.length < sizeLine /\ H' = upd H a (.dK (putK kvs k v))) \/
  ∃ kvs k b, H a = some (.dT kvs) /\ y = .ref b /\ H b = some (.tup (k.map kV)) /\ kvs.length < sizeLine /\ H' = upd H a (.dT (putK kvs k v))
theorem DGet.t {H : Hp} {a b : Addr} {kvs : List (List Key × V)} {k : List Key} (e : H a = some (.dT kvs)) (eb : H b = some (.tup (k.map kV))) : DGet H a (.ref b) (valV kvs k) := .inr ⟨kvs, k, b, .inl e, rfl, eb, rfl⟩
theorem DPut.t {H : Hp} {a b : Addr} {kvs : List (List Key × V)} {k : List Key} {v : V} (e : H a = some (.dT kvs)) (eb : H b = some (.tup (k.map kV))) (hl : kvs.length < sizeLine) :
    DPut H a (.ref b) v (upd H a (.dT (putK kvs k v))) := .inr ⟨kvs, k, b, e, rfl, eb, hl, rfl⟩
section
variable {X : Cx} {pins : List (Addr × Obj)} {σ : St} {H : Hp} {s : Shared} {a : Addr} {y v : V} {u r : Value} {o : Option V} {A : Around} {E : Value -> Shared -> Prop}
theorem Inv.big (I : Inv X pins σ H s) : sysModules < s.heap.objs.size := by
  have h : mainGlobals < s.heap.objs.size := (I.mod.glob.keeps I.bk).lt
  exact Nat.lt_trans (by decide) h
theorem d_in {Q : Value -> Shared -> Prop} (hu : A.units + 1 < cLine) (I : Inv X pins σ H s) (g : DGet H a y o) (ry : RelV y u) (h : ∀ s', Inv X pins σ H s' -> Q (.bool o.isSome) s') :
    wpAny (model X.prog X.w) A (compareOp .In u (.ref a)) Q E s := by
  rcases g with ⟨kvs, k, e, ey, l⟩ | ⟨kvs, k, b, e, ey, eb, l⟩
  · subst ey
    obtain ⟨z, hd, vs, rel, dd⟩ := dk_rd I.hok e
    refine wpAny_in_of (kV_is ry) hd dd.mapOf ?_
    rw [<- (rel.val k).isSome_eq, <- l]
    exact h _ (I.tok _)
  · subst ey
    cases (show u = Value.ref b from ry)
    obtain ⟨z, hd, xs, rel, dd⟩ := dt_rd I.hok e
    refine wpAny_in_heap (tupleKind_room_in1 hu) (key_of I.hok eb) hd dd ?_
    have q := (rel.val k).isSome_eq
    rw [Option.isSome_map] at q
    rw [<- q, <- l]
    exact h _ (I.tok _)
theorem d_write {h' : Heap} {t' : Nat} {ob : HO} (I : Inv X pins σ H s) (mu : Mut (H a)) (hs : Heap.SameBut a s.heap h') (he : ∃ q, h'.get? a = some q) (new : ObjOk X.prog X.w (upd H a ob) h' a ob) :
    Inv X pins σ (upd H a ob) { s with heap := h', toks := t' } :=
  I.write (x := a) (e := a) mu (.inl rfl) (fun b q hb z => (hs.2 b hb).trans z) he new
theorem dk_new {P : Program} {w : World} {H' : Hp} {h' : Heap} {kvs : List (Key × V)} {vs : List (Key × Value)} (z : kvs.length <= sizeLine) (hd : (a == sysModules) = false) (rel : KV kvs vs) (dd : h'.DictOf (mixKind P w) a vs) :
    ObjOk P w H' h' a (.dK kvs) := ⟨z, hd, vs, rel, dd⟩
theorem d_setItem {H' : Hp} {Q : Unit -> Shared -> Prop} (hu : A.units + 1 < cLine) (I : Inv X pins σ H s) (g : DPut H a y v H') (ry : RelV y u) (rv : RelV v r) (h : ∀ s', Inv X pins σ H' s' -> Q () s') :
    wpAny (model X.prog X.w) A (setItem (.ref a) u r) Q E s := by
  rcases g with ⟨kvs, k, e, ey, l, eH⟩ | ⟨kvs, k, b, e, ey, eb, l, eH⟩
  · subst ey eH
    obtain ⟨z, hd, vs, rel, dd⟩ := dk_of I.hok e
    have hz : vs.length <= sizeLine := by rw [<- rel.length]; exact z
    have hl : (putK kvs k v).length <= sizeLine := by have := length_putK kvs k v; omega
    refine wpAny_setItem_pairs (hsz := hz) (kV_is ry) dd fun h' dd' hs => h _ ?_
    have he : ∃ q, h'.get? a = some q := let ⟨q, _, _, hq, _⟩ := dd'; ⟨q, hq⟩
    exact d_write I (by rw [e]; exact True.intro) hs he (dk_new hl hd (rel.put k rv) dd')
  · subst ey eH
    cases (show u = Value.ref b from ry)
    obtain ⟨z, hd, xs, rel, dd⟩ := dt_of I.hok e
    have hz : xs.length <= sizeLine := by rw [<- Paired.length rel]; exact z
    have hl : (putK kvs k v).length <= sizeLine := by have := length_putK kvs k v; omega
    refine wpAny_setItem_heap (hsz := hz) (tupleKind_room_in1 hu) (key_of I.hok eb) dd fun h' dd' hs => h _ ?_
    obtain ⟨q, es, ep, hq, h2, h3, h4, _, h5⟩ := dd'
    refine d_write I (by rw [e]; exact True.intro) hs ⟨q, hq⟩ ⟨hl, hd, _, (rel.put k eb rv).keeps fun c ys ec => ?_, q, es, ep, hq, h2, h3, h4, h5⟩
    rw [upd_ne (ne_of ec e (fun z => nomatch z))]
    exact ec
end
section
variable {X : Cx} {pins : List (Addr × Obj)} {σ : St} {H : Hp} {s : Shared} {a : Addr} {kvs : List (Key × V)} {k : Key} {u : Value} {A : Around} {E : Value -> Shared -> Prop}
end
def NoSl (i : Expr) : Prop := ∀ ov iv, subscripted i false ov iv = operate [ov, iv] (getItem ov iv)
theorem subD_of {prog : Program} {w : World} {A : Around} {E : Value -> Shared -> Prop} {s : Shared} {env : Env} {value slice : Expr} {pos : Pos} {T id : String} {Q : Value -> Shared -> Prop}
    (hl : typeLookup (.type T) "__getitem__" = pure (some (.builtin id))) (hs : NoSl slice)
    (h : wpAny (model prog w) A (eval value env) (fun o s₁ => wpAny (model prog w) A (eval slice env) (fun i s₂ => s₂.TypeIs o T /\ wpAny (model prog w) A (getItem o i) Q E s₂) E s₁) E s) :
    wpAny (model prog w) A (eval (.Subscript value slice pos) env) Q E s := by
  refine Subscript_ (wpAny_mono h (fun o s₁ h₁ => wpAny_mono h₁ (fun i s₂ h₂ => ?_) fun _ _ x => x) fun _ _ x => x)
  obtain ⟨hT, h₂⟩ := h₂
  unfold subscriptTail
  refine wpAny_bind ?_
  rw [getitemInPython_of_ne hT.not_modules]
  refine wpAny_bind (wpAny_specialOf hT hl ?_)
  have fin : wpAny (model prog w) A (subscripted slice false o i) (fun r s₃ => wpAny (model prog w) A (letTemporaryGo value o r >>= fun _ => pure r) Q E s₃) E s₂ := by
    rw [hs o i]
    exact wpAny_operating (wpAny_mono h₂ (fun r s₃ h₃ => wpAny_bind (wpAny_letTemporaryGo (wpAny_pure h₃))) fun _ _ x => x)
  first
    | exact wpAny_pure (wpAny_bind fin)
    | exact wpAny_bind (wpAny_pure (wpAny_bind fin))
    | exact wpAny_bind fin
def tDIn (ty td : TE) : TE := fun σ H Q => ty σ H fun y H1 => td σ H1 fun x H2 => ∃ a o, x = .ref a /\ DGet H2 a y o /\ Q (.bl o.isSome) H2
def sDPut (td ty tv : TE) : TS := fun D σ H => tv σ H fun v H1 => td σ H1 fun x H2 => ty σ H2 fun y H3 => ∃ a H4, x = .ref a /\ DPut H3 a y v H4 /\ D.nx σ H4
section
variable {X : Cx} {o i e value : Expr} {pos pos' tpos : Pos} {td ty tv : TE}
theorem pc_din (hu : X.A.units + 1 < cLine) (hi : PE X i ty) (ho : PE X o td) : PC X .In i o (tDIn ty td) := by
  intro pins s σ H Q I h
  refine thn (hi pins s σ H _ I h) fun iv s1 ⟨y, H1, I1, ry, q1⟩ => thn (ho pins s1 σ H1 _ I1 q1) fun u s2 ⟨x, H2, I2, rx, a, ov, ex, g, q2⟩ => ?_
  subst ex
  obtain rfl : u = Value.ref a := rx
  exact d_in hu I2 g ry fun s3 I3 => ⟨.bl ov.isSome, H2, I3, rfl, q2⟩
theorem ps_dput (hu : X.A.units + 1 < cLine) (ho : PE X o td) (hi : PE X i ty) (hv : PE X value tv) (hs : swapsWith value (some (.Subscript o i pos')) pos.line X.env = pure false) :
    PS X (.Assign [.Subscript o i pos'] value pos) (sDPut td ty tv) := by
  intro pins s σ H D I h
  refine wpAny_Assign_Subscript (thn (hv pins s σ H _ I h) fun r s1 ⟨v, H1, I1, rv, q1⟩ => thn (ho pins s1 σ H1 _ I1 q1) fun u s2 ⟨x, H2, I2, rx, q2⟩ => thn (hi pins s2 σ H2 _ I2 q2) fun iv s3 ⟨y, H3, I3, ry, a, H4, ex, g, q3⟩ => ?_) hs
  subst ex
  obtain rfl : u = Value.ref a := rx
  exact d_setItem hu I3 g ry rv fun s4 I4 => ⟨σ, H4, I4, q3⟩
end
theorem dt_empty {P : Program} {w : World} {H : Hp} (h : Heap) (hb : sysModules < h.objs.size) : ObjOk P w H (h.push { cls := .type "dict", data := .dict #[] }) h.objs.size (.dT []) :=
  ⟨Nat.zero_le _, beq_eq_false_iff_ne.mpr (Ne.symm (Nat.ne_of_lt hb)), [], .nil, _, #[], 0, Heap.get?_push_size _ rfl, ⟨rfl, rfl, rfl⟩, rfl, rfl, List.nodup_nil⟩
def tDNewT : TE := fun _ H Q => ∀ p, H p = none -> Q (.ref p) (upd H p (.dT []))
section
variable {X : Cx} {pos : Pos}
theorem pe_dnewT : PE X (.Dict [] [] pos) tDNewT := fun pins s σ H Q I h =>
  wpAny_Dict_empty ⟨.ref s.heap.objs.size, _, I.laid (a := s.heap.objs.size) (o := .dT []) (t' := s.toks) (fun _ _ q => Heap.get?_push_of_some _ q) (Nat.le_refl _) (dt_empty s.heap I.big), rfl, h _ (I.hok.fresh (Nat.le_refl _))⟩
end
structure M1 (X : Cx) (o : Expr) (m : Str) (apos : Pos) (e : Expr) (cpos : Pos) : Prop where
  base : attributeBase o m X.env (eval o X.env) = eval o X.env
  few : ((backTo cpos (starEach [e] X.env)).all (fun x => !x.1) && (backToKw cpos (keywordEach [] X.env)).all (fun x => x.1.isSome)
    && decide (([e] : List Expr).length + ([] : List Keyword).length + (if ([] : List Keyword).isEmpty then 0 else 1) < 30)) = true
  line : (apos.endLine == cpos.line) = true
  trees : backTo cpos (starEach [e] X.env) = [(false, eval e X.env)]
section
variable {X : Cx} {pins : List (Addr × Obj)} {σ : St} {H : Hp} {s : Shared} {a : Addr} {y d : V} {u r : Value} {o : Option V} {A : Around} {E : Value -> Shared -> Prop}
end
section
variable {X : Cx} {o e f : Expr} {apos cpos : Pos} {td ty tx : TE}
end
section
variable {X : Cx} {pins : List (Addr × Obj)} {σ : St} {H : Hp} {s : Shared} {a : Addr} {kvs : List (Key × V)} {A : Around} {E : Value -> Shared -> Prop}
end
section
variable {X : Cx} {pins : List (Addr × Obj)} {σ : St} {H : Hp} {s : Shared} {a : Addr} {y : V} {u : Value} {A : Around} {E : Value -> Shared -> Prop}
end
end L2
namespace L2
open PySem PySem.Spec PyProof.Rows
section
variable {prog : Program} {w : World} {A : Around} {E : Value -> Shared -> Prop}
end
section
variable {X : Cx}
end
end L2
namespace L2
open PySem PySem.Spec PyProof.Rows
section
variable {X : Cx} {pins : List (Addr × Obj)} {σ : St} {H : Hp} {s : Shared} {h' : Heap}
end
section
variable {X : Cx}
theorem pi_one {tg : Expr} {pins : List (Addr × Obj)} {σ : St} {H : Hp} {s : Shared} {R : It -> Hp -> Prop} {J : It} {tn : Nat -> Heap -> Prop} {tk : Nat} (I : Inv X pins σ H s) (o : Obj)
    (T : Turn X.prog X.w X.K tg J [s.heap.objs.size] s.heap.objs.size tn) (st : tn 0 (s.heap.push o)) (q : R J H) : PIE X pins σ tg R (.ref s.heap.objs.size) { s with heap := s.heap.push o, toks := tk } := by
  refine ⟨s.heap.objs.size, [s.heap.objs.size], tn, J, H, rfl, I.kept fun b ob e => Heap.get?_push_of_some _ e, T, st, fun b hb => ?_, q⟩
  have e : b = s.heap.objs.size := by simpa using hb
  subst e
  exact I.fpOk (Nat.le_refl _) (I.hok.fresh (Nat.le_refl _))
end
section
variable {X : Cx} {tg : Expr}
end
section
variable {X : Cx} {tg : Expr}
end
def Its (x : Str) : It := ⟨fun i _ => i < x.cps.size, fun i H v H' => H' = H /\ ∃ c, x.cps[i]? = some c /\ v = .str ⟨#[c]⟩, fun i _ => x.cps.size <= i⟩
theorem turn_str {P : Program} {w : World} {K : PySem.W.Frag} {tg : Expr} (it : Addr) (x : Str) (t : Tok) (ty : String) (hty : ty = "str_ascii_iterator" \/ ty = "str_iterator") :
    Turn P w K tg (Its x) [it] it (fun i h => h.IsStrIter it ty x t i) where
  mem := by simp
  obj := fun i h st b hb => by
    have e : b = it := by simpa using hb
    subst e
    obtain ⟨o, e, c, d⟩ := st
    exact ⟨o, e, fun v z => by rw [d] at z; cases z⟩
  keep := fun i h h' st k => let ⟨o, ho, r⟩ := st; ⟨o, k it (by simp) o ho, r⟩
  item := by
    intro X hP hw hK hc i pins s σ H E I hf st hg
    subst hP hw hK
    obtain ⟨f0, f1, f2, f3, f4, f5⟩ := hf it (by simp)
    have W : Walks X.prog X.w X.A it [it] [it] x.cps.size (SignAt x) (fun i h => h.IsStrIter it ty x t i) := by
      rcases hty with e | e
      · rw [e]; exact Walks.strAscii (I.ok.hd hc) it x t
      · rw [e]; exact Walks.strWide (I.ok.hd hc) it x t
    have hno : ["enumerate", "zip", "dict_itemiterator", "dict_reverseitemiterator", "odict_iterator", "itertools.zip_longest", "itertools.pairwise"].contains ty = false := by
      rcases hty with e | e
      · rw [e]; decide
      · rw [e]; decide
    refine W.item i s _ _ hg st fun v h' tk hv st' kk => ?_
    obtain ⟨c, u, hcx, rfl⟩ := hv
    have I1 : Inv X pins σ H { s with heap := h', toks := tk } := I.turned (fun b o hb e => kk b o (by simpa using hb) e) f0 f1 f3 f4 f5
    obtain ⟨oi, e, cc, dd⟩ := id st'
    exact ⟨_, rfl, go_of (s := { s with heap := h', toks := tk }) e cc dd hno ⟨.str ⟨#[c]⟩, H, I1, ⟨u, rfl⟩, ⟨rfl, c, hcx, rfl⟩, st', fun b hb => (hf b hb).1⟩⟩
  done := by
    intro X hP hw hK hc i pins s σ H E I hf st hg
    subst hP hw hK
    obtain ⟨f0, f1, f2, f3, f4, f5⟩ := hf it (by simp)
    have hx : x.cps[i]? = none := Array.getElem?_eq_none hg
    rcases hty with e | e
    · rw [e] at st
      exact wpAny_pyNext_ascii_end (I.ok.hd hc) st hx fun h' eb => ⟨rfl, I.turned (t' := s.toks) (fun b o hb e => eb b o hb e) f0 f1 f3 f4 f5⟩
    · rw [e] at st
      exact wpAny_pyNext_wide_end (I.ok.hd hc) st hx fun h' eb => ⟨rfl, I.turned (t' := s.toks) (fun b o hb e => eb b o hb e) f0 f1 f3 f4 f5⟩
  self := fun A i s Q E st h => by
    rcases hty with e | e
    · rw [e] at st; exact wpAny_pyIter_striter_ascii st h
    · rw [e] at st; exact wpAny_pyIter_striter_wide st h
def iStr (te : TE) : TI := fun σ H R => te σ H fun v H1 => ∃ x, v = .str x /\ R (Its x) H1
theorem pi_str {X : Cx} {tg e : Expr} {te : TE} (he : PE X e te) : PI X tg e (iStr te) := by
  intro pins s σ H R I h
  refine thn (he pins s σ H _ I h) fun v s1 ⟨y, H1, I1, r1, x, ex, q⟩ => ?_
  subst ex
  obtain ⟨t, rfl⟩ := r1
  cases ha : x.cps.all (· < 128)
  · exact wpAny_pyIter_wide ha (pi_one (tk := s1.toks) I1 _ (turn_str _ x t "str_iterator" (.inr rfl)) ⟨_, Heap.get?_push_size _ rfl, rfl, rfl⟩ q)
  · exact wpAny_pyIter_ascii ha (pi_one (tk := s1.toks) I1 _ (turn_str _ x t "str_ascii_iterator" (.inl rfl)) ⟨_, Heap.get?_push_size _ rfl, rfl, rfl⟩ q)
section
variable {prog : Program} {w : World} {A : Around} {E : Value -> Shared -> Prop} {s : Shared}
end
section
variable {X : Cx} {pins : List (Addr × Obj)} {σ : St} {H : Hp} {s : Shared} {d : Addr} {o : Obj}
end
section
variable {P : Program} {w : World} {K : PySem.W.Frag} {tg : Expr} {d : Addr} {o : Obj} {es : Array DictEntry} {ep : Nat}
end
section
variable {X : Cx} {tg e : Expr} {td : TE} {apos cpos : Pos}
end
end L2
section
namespace Bits
open PySem PyProof.Rows
end Bits
end
section
namespace TL
open PySem PySem.Builtin PySem.Builtin.Str PySem.StrLaws
end TL
end
namespace L2
open PySem PySem.Spec PyProof.Rows
theorem vals_strs : ∀ l : List (Str × Tok), Vals ((l.map (·.1)).map V.str) (strValues l)
  | [] => .nil
  | p :: r => .cons ⟨p.2, rfl⟩ (vals_strs r)
def rNewStrs (ys : List Str) : Hp -> VK -> Prop := fun H Q => ∀ p, H p = none -> Q (.ref p) (upd H p (.lst (ys.map V.str)))
section
variable {X : Cx} {pins : List (Addr × Obj)} {σ : St} {H : Hp} {s : Shared} {Q : VK}
theorem laid_strs {l : List (Str × Tok)} {ys : List Str} {k : Nat} (I : Inv X pins σ H s) (e : l.map (·.1) = ys) (hz : ys.length <= sizeLine) (h : rNewStrs ys H Q) :
    EP X pins σ Q (.ref s.heap.objs.size) { s with toks := k, heap := s.heap.push { cls := .type "list", data := .seq (strValues l).toArray } } := by
  have hp := I.hok.fresh (Nat.le_refl _)
  refine ⟨.ref s.heap.objs.size, upd H s.heap.objs.size (.lst (ys.map V.str)), I.laid (fun b u q => Heap.get?_push_of_some _ q) (Nat.le_refl _) ⟨by rw [List.length_map]; exact hz, strValues l, _, ?_, Heap.get?_push_size _ rfl⟩, rfl, h _ hp⟩
  rw [<- e]
  exact vals_strs l
end
section
variable {X : Cx}
theorem words_le (x : Str) : (Txt.words x).length <= x.length + 1 := by
  have e1 := StrLaws.words_weight x
  omega
theorem mt_words : MtR X "str.split" (fun x xs H Q => ∃ a, x = .str a /\ xs = [] /\ a.length + 2 <= sizeLine /\ rNewStrs (Txt.words a) H Q) := by
  intro pins s σ H x xs v us Q I rx rs h
  obtain ⟨a, rfl, rfl, hz, h⟩ := h
  obtain ⟨t, rfl⟩ := rx
  cases rs
  have hl : (Txt.words a).length <= sizeLine := Nat.le_trans (words_le a) (by omega)
  have hn : (Builtin.Str.spaceWords a (a.length + 1)).length <= sizeLine := by
    have e1 := (StrLaws.sw_weight a).1
    have e2 := StrLaws.len_le_wsum (Builtin.Str.spaceWords a (a.length + 1))
    omega
  refine call_meets F.slot_str_split (typeIs_str _ _ _) F.entry_str_split (F.args_str_split_1 _) (meets_str_split_space a t (by omega) hn) ?_
  cases hw : Builtin.Str.spaceWords a (a.length + 1) == [(0, a.length)]
  · simp only [Bool.false_eq_true, if_false]
    rw [strsFrom_eq]
    exact laid_strs (ys := Txt.words a) I ((numbered_texts _ _).trans (if_neg (ne_true_of_eq_false hw)).symm) hl h
  · simp only [if_true]
    exact laid_strs (l := [(a, t)]) (ys := Txt.words a) (k := s.toks) I (if_pos hw).symm hl h
theorem mt1 {id : String} {g : Str -> Str -> V} (rule : ∀ (a b : Str) (t u : Tok) (s : Shared) (Q : Value -> Shared -> Prop), (∀ (v : Value) (k : Nat), RelV (g a b) v -> Q v { s with toks := k }) ->
    wpAny (model X.prog X.w) X.A (call (.builtin id) [.str a t, .str b u]) Q X.xe s) : MtR X id (fun x xs H Q => ∃ a b, x = .str a /\ xs = [.str b] /\ Q (g a b) H) := by
  intro pins s σ H x xs v us Q I rx rs h
  obtain ⟨a, b, rfl, rfl, h⟩ := h
  obtain ⟨t, rfl⟩ := rx
  cases rs with
  | cons r1 rs =>
    cases rs
    obtain ⟨u, rfl⟩ := r1
    exact rule a b t u s _ fun v k r => ⟨g a b, H, I.tok k, r, h⟩
theorem mt_startswith : MtR X "str.startswith" (fun x xs H Q => ∃ a b, x = .str a /\ xs = [.str b] /\ Q (.bl (Txt.startswith a b)) H) :=
  mt1 (g := fun a b => .bl (Txt.startswith a b)) fun _ _ _ _ s _ h => PySem.SC.startswith (h _ s.toks rfl)
end
section
variable {X : Cx} {o e : Expr} {to te : TE}
def tM0 (r : V -> List V -> Hp -> VK -> Prop) (to : TE) : TE := fun σ H Q => to σ H fun x H1 => (∃ a, x = .str a) /\ r x [] H1 Q
def tM1 (r : V -> List V -> Hp -> VK -> Prop) (to te : TE) : TE := fun σ H Q => to σ H fun x H1 => (∃ a, x = .str a) /\ te σ H1 fun y H2 => r x [y] H2 Q
theorem pe_m0 {id : String} {name : Str} {apos pos : Pos} {r : V -> List V -> Hp -> VK -> Prop} (slot : Slot "str" name id) (ty : typeOf (.builtin id) = pure (.type "method_descriptor")) (rule : MtR X id r) (ho : PE X o to)
    (hbase : attributeBase o name X.env (eval o X.env) = eval o X.env := by rfl) (hline : (apos.endLine == pos.line) = true := by rfl) : PE X (.Call (.Attribute o name apos) [] [] pos) (tM0 r to) := by
  intro pins s σ H Q I h
  refine PySem.Call_method0 hbase hline (thn (ho pins s σ H _ I h) fun v s1 ⟨x, H1, I1, r1, q1⟩ => ?_)
  obtain ⟨⟨a, rfl⟩, q1⟩ := q1
  obtain ⟨t, rfl⟩ := _root_.id r1
  exact ⟨"str", _, F.plainAttrs_str, slot, ty, typeIs_str _ _ _, (fun _ e => nomatch e), Calls.callWith_builtin rfl (PySem.evalArgs_none (rule pins s1 σ H1 _ [] _ [] Q I1 r1 .nil q1))⟩
theorem pe_m1 {id : String} {name : Str} {apos pos : Pos} {r : V -> List V -> Hp -> VK -> Prop} (slot : Slot "str" name id) (ty : typeOf (.builtin id) = pure (.type "method_descriptor")) (rule : MtR X id r) (ho : PE X o to) (he : PE X e te)
    (hs : starEach [e] X.env = [(false, eval e X.env)] := by rfl) (hbase : attributeBase o name X.env (eval o X.env) = eval o X.env := by rfl) (hline : (apos.endLine == pos.line) = true := by rfl) :
    PE X (.Call (.Attribute o name apos) [e] [] pos) (tM1 r to te) := by
  intro pins s σ H Q I h
  refine PySem.Call_method1 hbase hs hline (thn (ho pins s σ H _ I h) fun v s1 ⟨x, H1, I1, r1, q1⟩ => ?_)
  obtain ⟨⟨a, rfl⟩, q1⟩ := q1
  obtain ⟨t, rfl⟩ := _root_.id r1
  refine ⟨"str", _, F.plainAttrs_str, slot, ty, typeIs_str _ _ _, (fun _ e => nomatch e), Calls.callWith_builtin rfl (Calls.evalArgs_plain (Calls.spliced_cons ?_))⟩
  exact thn (he pins s1 σ H1 _ I1 q1) fun u s2 ⟨y, H2, I2, r2, q2⟩ => Calls.spliced_nil (rule pins s2 σ H2 _ [y] _ [u] Q I2 r1 (.cons r2 .nil) q2)
theorem pe_words {apos pos : Pos} (ho : PE X o to) (hbase : attributeBase o "split" X.env (eval o X.env) = eval o X.env := by rfl) (hline : (apos.endLine == pos.line) = true := by rfl) :
    PE X (.Call (.Attribute o "split" apos) [] [] pos) (tM0 (fun x xs H Q => ∃ a, x = .str a /\ xs = [] /\ a.length + 2 <= sizeLine /\ rNewStrs (Txt.words a) H Q) to) :=
  pe_m0 F.slot_str_split F.type_str_split mt_words ho hbase hline
end
end L2
namespace L2
open PySem PySem.Spec PyProof.Rows
section
variable {X : Cx}
end
theorem IsPart.raw {v : Value} {o : Option Int} (p : IsPart v o) : ∃ l : Option (Int × Tok), v = partValue l /\ l.map (·.1) = o := by
  cases p with
  | none => exact ⟨none, rfl, rfl⟩
  | int i t => exact ⟨some (i, t), rfl, rfl⟩
def clipS (n d : Nat) : Option Int -> Int
  | none => (d : Int)
  | some i => max 0 (min (if i < 0 then i + (n : Int) else i) (n : Int))
theorem clipS_eq (n d : Nat) (o : Option Int) : clipS n d o = ((HT.sIx n d o : Nat) : Int) := by
  cases o with
  | none => rfl
  | some v =>
    show max (0 : Int) (min (if v < 0 then v + (n : Int) else v) (n : Int)) = (((if v < 0 then (v + (n : Int)).toNat else min v.toNat n) : Nat) : Int)
    by_cases hv : v < 0
    · simp only [if_pos hv]
      omega
    · simp only [if_neg hv]
      omega
theorem sidx_clip (a b : Option Int) (n : Nat) : Builtin.Str.strSliceIndices a b 1 n = sliceRange (clipS n 0 a) (clipS n n b) 1 := by
  have h1 : ((1 : Int) > 0) = True := by simp
  cases a <;> cases b <;> first
    | rfl
    | (simp only [Builtin.Str.strSliceIndices, clipS, h1, if_true]; rfl)
    | simp [Builtin.Str.strSliceIndices, clipS]
theorem sidx (a b : Option Int) (n : Nat) : Builtin.Str.strSliceIndices a b 1 n = (List.range (HT.sIx n n b - HT.sIx n 0 a)).map (fun k => HT.sIx n 0 a + k) := by
  rw [sidx_clip, clipS_eq, clipS_eq]
  generalize HT.sIx n 0 a = p
  generalize HT.sIx n n b = q
  simp only [sliceRange, show ((1 : Int) > 0) = True from by simp, if_true]
  by_cases hlt : (p : Int) < q
  · have e3 : (((q : Int) - p + 1 - 1) / 1).toNat = q - p := by first | omega | (simp; done) | (simp; omega)
    simp only [hlt, if_true, e3]
    refine List.map_congr_left fun k _ => ?_
    omega
  · have : q - p = 0 := by omega
    simp [hlt, this]
def cutS (z : Str) (lo hi : Option Int) : Str :=
  ⟨((z.cps.toList.drop (HT.sIx z.length 0 lo)).take (HT.sIx z.length z.length hi - HT.sIx z.length 0 lo)).toArray⟩
theorem sliceText_cut (z : Str) (lo hi : Option Int) : PySem.StrLaws.sliceText z lo hi = cutS z lo hi := by
  have h1 : HT.sIx z.length 0 lo <= z.length := HT.sIx_le _ _ (Nat.zero_le _) _
  have h2 : HT.sIx z.length z.length hi <= z.length := HT.sIx_le _ _ (Nat.le_refl _) _
  have hp : HT.sIx z.length 0 lo <= max (HT.sIx z.length 0 lo) (HT.sIx z.length z.length hi) := Nat.le_max_left _ _
  have hq : max (HT.sIx z.length 0 lo) (HT.sIx z.length z.length hi) <= z.length := Nat.max_le.mpr ⟨h1, h2⟩
  have hd : max (HT.sIx z.length 0 lo) (HT.sIx z.length z.length hi) - HT.sIx z.length 0 lo = HT.sIx z.length z.length hi - HT.sIx z.length 0 lo := by omega
  have e : Builtin.Str.strSliceIndices lo hi 1 z.length =
      Builtin.Str.strSliceIndices (some ((HT.sIx z.length 0 lo : Nat) : Int)) (some ((max (HT.sIx z.length 0 lo) (HT.sIx z.length z.length hi) : Nat) : Int)) 1 z.length := by
    rw [PySem.StrLaws.strSliceIndices_plain hp hq, hd, sidx]
  have e2 : PySem.StrLaws.sliceText z lo hi =
      PySem.StrLaws.sliceText z (some ((HT.sIx z.length 0 lo : Nat) : Int)) (some ((max (HT.sIx z.length 0 lo) (HT.sIx z.length z.length hi) : Nat) : Int)) := by
    unfold PySem.StrLaws.sliceText
    rw [e]
  rw [e2, PySem.StrLaws.sliceText_nat z hp hq, hd]
  rfl
theorem cutS_length (z : Str) (lo hi : Option Int) : (cutS z lo hi).length <= z.length := by
  show (((z.cps.toList.drop (HT.sIx z.length 0 lo)).take (HT.sIx z.length z.length hi - HT.sIx z.length 0 lo)).toArray).size <= z.cps.size
  rw [List.size_toArray, List.length_take, List.length_drop, Array.length_toList]
  omega
def rSlS : V -> Option Int -> Option Int -> Hp -> VK -> Prop := fun x lo hi H Q => ∃ z, x = .str z /\ z.length <= sizeLine /\ Q (.str (cutS z lo hi)) H
theorem sl_str {X : Cx} : SlR X rSlS := by
  intro pins s σ H x v vl vu lo hi sl Q I rx hs pl pu h
  obtain ⟨z, rfl, hz, q⟩ := h
  obtain ⟨t, rfl⟩ := rx
  obtain ⟨os, hos, hcs, hds⟩ := hs
  obtain ⟨l, rfl, rfl⟩ := IsPart.raw pl
  obtain ⟨u, rfl, rfl⟩ := IsPart.raw pu
  refine ⟨"str", _, F.slot_str_getitem.lookup, typeIs_str _ _ _, ?_⟩
  refine wpAny_getItem_str_slice (l := l) (u := u) (st := none) ⟨os, hos, hcs, hds⟩ rfl ?_
  have hl : (PySem.StrLaws.sliceText z (l.map (·.1)) (u.map (·.1))).length <= sizeLine := by
    rw [sliceText_cut]
    exact Nat.le_trans (cutS_length z _ _) hz
  rw [<- sliceText_cut] at q
  unfold PySem.StrLaws.sliceText at q hl
  show Made.post (if ((1 : Int) == 1 && (Builtin.Str.strSliceIndices (l.map (·.1)) (u.map (·.1)) 1 z.length).length == z.length) = true then Made.val (.str z t)
    else Made.str ⟨((Builtin.Str.strSliceIndices (l.map (·.1)) (u.map (·.1)) 1 z.length).filterMap (z.cps[·]?)).toArray⟩) (EP X pins σ Q) s
  by_cases c : ((1 : Int) == 1 && (Builtin.Str.strSliceIndices (l.map (·.1)) (u.map (·.1)) 1 z.length).length == z.length) = true
  · rw [if_pos c] at q ⊢
    exact ⟨.str z, H, I, ⟨t, rfl⟩, q⟩
  · rw [if_neg c] at q hl ⊢
    exact ⟨hl, .str _, H, I.tok _, ⟨_, rfl⟩, q⟩
end L2
namespace Att
open PySem PySem.W PySem.Calls PyProof.Rows
section
variable {prog : Program} {w : World} {A : Around} {E : Value -> Shared -> Prop} {s : Shared} {K : Frag}
end
end Att
namespace L2
open PySem PySem.Spec PyProof.Rows
end L2
namespace L2
open PySem PySem.Spec PyProof.Rows
end L2
namespace L2
open PySem PySem.Spec PyProof.Rows
def inClass (s : Stmt) (j : Nat) : Stmt := match s with
  | .ClassDef _ _ _ body _ _ _ _ _ _ _ => body.getD j (.Pass ⟨0, 0, 0, 0⟩)
  | _ => .Pass ⟨0, 0, 0, 0⟩
def defArgs (s : Stmt) : Arguments := match s with
  | .FunctionDef _ a _ _ _ _ _ _ _ _ => a
  | _ => { posonlyargs := [], args := [], vararg := none, kwonlyargs := [], kw_defaults := [], kwarg := none, defaults := [] }
def defBody (s : Stmt) : List Stmt := match s with
  | .FunctionDef _ _ b _ _ _ _ _ _ _ => b
  | _ => []
def defScope (s : Stmt) : Scope := match s with
  | .FunctionDef _ _ _ _ _ _ sc _ _ _ => sc
  | _ => { kind := .function, names := [], isGenerator := false, isCoroutine := false }
abbrev CX0 : CXT := fun _ _ _ _ _ _ => False
abbrev E0 : XK := fun _ _ _ => False
theorem pass0 {X : Cx} : Passes CX0 X E0 := fun _ _ _ _ _ _ _ h => h.elim
structure Fun (K : PySem.W.Frag) (x qual : Str) (st : Stmt) (f : Addr) (fd : FuncData) : Prop where
  ex : ∃ (oc : Value) (od : Option Addr) (kV doc pm : Value) (an : Option Addr) (cdv ct : Value) (osl : Array (Option Value)),
    fd = PySem.W.fnOf x qual (defArgs st) (defBody st) (defScope st) .none kV doc pm an cdv ct /\ K.lookup f = some ⟨oc, od, .func fd, osl⟩ /\ PySem.W.codeIn K cdv qual = true
  kp : PySem.W.keepIn K (.ref f) = true
section
variable {P : Program} {w : World} {K : PySem.W.Frag} {mg : Str -> Option Value} {base : Heap}
theorem Fun.ok {x qual : Str} {st : Stmt} {f : Addr} {fd : FuncData} {N ps : List Str} {k : Nat} {sp : Sp} (F : Fun K x qual st f fd) (S : FnScope N ps (defScope st)) (len : ∀ vs H Q E, sp vs H Q E -> vs.length = ps.length)
    (hbody : ∀ (cdv : Value) (A : Around) (outer : List Env) (s : Shared) (H : Hp) (vs : List V) (Q : VK) (E : XK), Room k (A.deeper (envOfC qual (defScope st) s.heap.objs.size f cdv)) -> sp vs H Q E ->
      ∃ t, PSs (cxOf CX0 P w K mg base N qual (defScope st) f cdv A outer s H E).nox (defBody st) t /\ t { nx := fun _ H' => Q .non H', rt := Q } (start N vs) H) : FnOk P w K mg base CX0 (k + 1) f fd ps sp := by
  obtain ⟨oc, od, kV, doc, pm, an, cdv, ct, osl, rfl, lk, hcd⟩ := F.ex
  refine fn_of lk hcd S len fun A outer s H vs Q E hr hsp => ?_
  obtain ⟨t, h, q⟩ := hbody cdv A outer s H vs Q E hr hsp
  exact ⟨t, h.nox, q⟩
theorem Fun.binds {x qual : Str} {st : Stmt} {f : Addr} {fd : FuncData} {ps : List Str} (F : Fun K x qual st f fd)
    (h : ∀ (kV doc pm : Value) (an : Option Addr) (cdv ct : Value) (us : List Value), us.length = ps.length -> bindArgs (PySem.W.fnOf x qual (defArgs st) (defBody st) (defScope st) .none kV doc pm an cdv ct) ⟨us, []⟩ = pure (ps.zip us)) : Binds K fd ps [] := by
  obtain ⟨oc, od, kV, doc, pm, an, cdv, ct, osl, rfl, lk, hcd⟩ := F.ex
  exact .all (h kV doc pm an cdv ct)
theorem fun_mk {x qual : Str} {st : Stmt} {f : Addr} {oc : Value} {od an : Option Addr} {osl : Array (Option Value)} {kV doc pm cdv ct : Value} (l : K.lookup f = some ⟨oc, od, .func (PySem.W.fnOf x qual (defArgs st) (defBody st) (defScope st) .none kV doc pm an cdv ct), osl⟩)
    (c : PySem.W.codeIn K cdv qual = true) (k : PySem.W.keepIn K (.ref f) = true) : Fun K x qual st f (PySem.W.fnOf x qual (defArgs st) (defBody st) (defScope st) .none kV doc pm an cdv ct) := ⟨⟨oc, od, kV, doc, pm, an, cdv, ct, osl, rfl, l, c⟩, k⟩
end
theorem hu_of {A : Around} {k : Nat} (hr : Room k A) : A.units + 1 < cLine := Nat.lt_of_le_of_lt (Nat.add_le_add_left (by decide : 1 <= 64) _) hr.units
theorem small1000 {n : Nat} (h : n <= 1000) : n < sizeLine := Nat.lt_of_le_of_lt h (by decide)
section
variable {X : Cx}
theorem pv (i : Nat) {x : Str} {pos : Pos} (hN : X.N[i]? = some x := by rfl) (hv : Vis X.env.scope x := by first | exact Or.inl rfl | exact Or.inr (Or.inl rfl) | exact Or.inr (Or.inr rfl)) (hd : (x == ("__debug__" : Str)) = false := by decide)
    (hcd : (x == ("__classdict__" : Str)) = false := by decide) : PE X (.Name x pos) (tVar i) := pe_var hN hv hd hcd
end
theorem iteF {A B : Prop} (h : B) : if false = true then A else B := by
  rw [if_neg Bool.false_ne_true]
  exact h
theorem iteT {A B : Prop} (h : A) : if true = true then A else B := by
  rw [if_pos rfl]
  exact h
theorem ite2 {c A B : Prop} [Decidable c] (h1 : c -> A) (h2 : ¬ c -> B) : if c then A else B := by
  by_cases h : c
  · rw [if_pos h]
    exact h1 h
  · rw [if_neg h]
    exact h2 h
def Same (H H' : Hp) : Prop := ∀ b o, H b = some o -> H' b = some o
theorem Same.refl (H : Hp) : Same H H := fun _ _ h => h
theorem Same.trans {H H1 H2 : Hp} (a : Same H H1) (b : Same H1 H2) : Same H H2 := fun c o h => b c o (a c o h)
theorem Same.free {H H' : Hp} (e : Same H H') {l : Addr} (h : H' l = Option.none) : H l = Option.none := by
  cases q : H l with
  | none => rfl
  | some o =>
    rw [e l o q] at h
    cases h
theorem Same.seq {K : PySem.W.Frag} {H H' : Hp} {a : Addr} {xs : List V} (e : Same H H') (h : SqL K H a xs) : SqL K H' a xs := by
  rcases h with (h | ⟨o, h⟩) | h
  · exact .inl (.inl (e _ _ h))
  · exact .inl (.inr ⟨o, e _ _ h⟩)
  · exact .inr h
section
variable {κ : Type} [DecidableEq κ]
end
end L2
end
section
set_option Elab.async false
set_option linter.all false
set_option maxRecDepth 100000
set_option maxHeartbeats 2000000
namespace L2
open PySem PySem.Spec PyProof.Rows
open LX (Fly)
def XOb (e C : Addr) (vs : Array Value) (dx : Option Addr) : HO := .ext fun h => ∃ sl, h.get? e = some ⟨.ref C, dx, .fields vs, sl⟩
def XDi (dx : Addr) (fs : List (Str × V)) : HO := .ext fun h => ∃ mA, h.Ns1 dx mA /\ (∀ f, RelO (fs.lookup f) (mA f)) /\ PySem.Within mA (fs.map (·.1))
theorem xob_ok {P : Program} {w : World} {H : Hp} {h : Heap} {e C : Addr} {vs : Array Value} {dx : Option Addr} {sl : Array (Option Value)} (q : h.get? e = some ⟨.ref C, dx, .fields vs, sl⟩) : ObjOk P w H h e (XOb e C vs dx) := ⟨⟨sl, q⟩, ⟨_, q⟩, fun _ _ ⟨sl, z⟩ k => ⟨sl, k _ z⟩⟩
theorem xdi_ok {P : Program} {w : World} {H : Hp} {h : Heap} {dx : Addr} {fs : List (Str × V)} {mA : Str -> Option Value} (n : h.Ns1 dx mA) (r : ∀ f, RelO (fs.lookup f) (mA f)) (wi : PySem.Within mA (fs.map (·.1))) : ObjOk P w H h dx (XDi dx fs) := by
  obtain ⟨o, es, ep, ho, c⟩ := id n
  refine ⟨⟨mA, n, r, wi⟩, ⟨o, ho⟩, fun h1 h2 z k => ?_⟩
  obtain ⟨mB, ⟨o1, es1, ep1, ho1, c1⟩, r1, w1⟩ := z
  exact ⟨mB, ⟨o1, es1, ep1, k _ ho1, c1⟩, r1, w1⟩
theorem HOk.xob {P : Program} {w : World} {H : Hp} {h : Heap} {e C : Addr} {vs : Array Value} {dx : Option Addr} (x : HOk P w H h) (q : H e = some (XOb e C vs dx)) : ∃ sl, h.get? e = some ⟨.ref C, dx, .fields vs, sl⟩ := (x _ _ q).1
theorem HOk.xdi {P : Program} {w : World} {H : Hp} {h : Heap} {dx : Addr} {fs : List (Str × V)} (x : HOk P w H h) (q : H dx = some (XDi dx fs)) : ∃ mA, h.Ns1 dx mA /\ (∀ f, RelO (fs.lookup f) (mA f)) /\ PySem.Within mA (fs.map (·.1)) := (x _ _ q).1
def cutH (H : Hp) (a : Addr) : Hp := fun b => if b = a then none else H b
theorem cut_ne {H : Hp} {a b : Addr} (h : b ≠ a) : cutH H a b = H b := by unfold cutH; rw [if_neg h]
theorem cut_same {H : Hp} {a : Addr} : cutH H a a = none := by unfold cutH; rw [if_pos rfl]
def CXR (P : Program) (w : World) : CXT := fun outer H s E e s' => ∃ (a C dx : Addr) (H' : Hp) (B : Heap), e = .ref a /\ s'.os = s.os /\ AllBare s'.gens /\ Un (frs outer) [] H H' s.heap s'.heap /\ HOk P w H' s'.heap /\ Fly B outer a C dx .none s'.heap /\
  (∀ b o, s.heap.get? b = some o -> b ∉ frs outer -> ∃ o', B.get? b = some o') /\ (∀ b u, H' b = some u -> ∃ o', B.get? b = some o') /\ H' a = none /\ E (.ref C) (some dx) H'
theorem un_on {fs : List Addr} {H H' : Hp} {h h1 h2 B : Heap} (u : Un fs [] H H' h h1) (s1 : B.StaysIn h1) (s2 : B.StaysIn h2) (hB : ∀ b o, h.get? b = some o -> b ∉ fs -> ∃ o', B.get? b = some o') (up : h1.UpToSlots h2)
    (hf : ∀ b ∈ fs, ∀ o, h1.get? b = some o -> ∀ vs, o.data ≠ .fields vs) : Un fs [] H H' h h2 where
  keep := fun b o q n hb hx => by
    obtain ⟨o', e⟩ := hB b o q hb
    have e1 := s1 b o' e
    rw [u.keep b o q n hb hx] at e1
    cases e1
    exact s2 b _ e
  slot := fun b o q n hb hx => by
    obtain ⟨sl, e⟩ := u.slot b o q n hb hx
    obtain ⟨sl2, e2⟩ := up b _ e (hf b hb _ e)
    exact ⟨sl2, e2⟩
  free := u.free
  there := fun b o q hx => by
    by_cases hb : b ∈ fs
    · obtain ⟨o1, e1⟩ := u.there b o q hx
      obtain ⟨sl2, e2⟩ := up b _ e1 (hf b hb _ e1)
      exact ⟨_, e2⟩
    · obtain ⟨o', e⟩ := hB b o q hb
      exact ⟨o', s2 b o' e⟩
  tups := u.tups
  frzs := u.frzs
  tbls := u.tbls
theorem hok_on {P : Program} {w : World} {H : Hp} {h1 h2 B : Heap} (x : HOk P w H h1) (s1 : B.StaysIn h1) (s2 : B.StaysIn h2) (hB : ∀ b u, H b = some u -> ∃ o', B.get? b = some o') : HOk P w H h2 := fun a o e =>
  (x a o e).stay (fun c u hc q => by
    have hc' : ∃ o', B.get? c = some o' := by
      rcases hc with rfl | hc
      · exact hB _ _ e
      · exact hB _ _ hc
    obtain ⟨o', eo⟩ := hc'
    have := s1 c o' eo
    rw [q] at this
    cases this
    exact s2 c _ eo) (fun _ q => q) fun _ _ q => q
theorem frames_nofields {h base : Heap} {l : List Env} (hl : h.FunFrames base l) : ∀ b ∈ frs l, ∀ o, h.get? b = some o -> ∀ vs, o.data ≠ .fields vs := fun b hb o q => by
  obtain ⟨_, o', ho', hn⟩ := hl.mem hb
  rw [q] at ho'
  cases ho'
  exact hn
section
variable {P : Program} {w : World} {K : PySem.W.Frag} {mg : Str -> Option Value} {base : Heap} {N : List Str} {qual : Str} {scope : Scope} {f : Addr} {cd : Value} {A : Around} {outer : List Env} {s : Shared} {H : Hp} {E : XK}
theorem pass_r : Passes (CXR P w) (cxOf (CXR P w) P w K mg base N qual scope f cd A outer s H E) E := by
  intro pins σ H1 s1 e s2 I hx
  obtain ⟨a, C, dx, H', B, rfl, hos, hb, un, hok, fly, c1, c2, hn, hE⟩ := hx
  have J := I.call' (ch := []) hos un hok hb (fun b z => absurd z (by simp))
  have c1' : ∀ b o, s.heap.get? b = some o -> b ∉ frs outer -> ∃ o', B.get? b = some o' := fun b o q hb => by
    obtain ⟨o1, q1⟩ := I.base.there b o q (by simp [cxOf])
    refine c1 b o1 q1 fun hm => ?_
    rcases List.mem_cons.mp (I.stkSub b hm) with z | z
    · have lt := Heap.lt_size q
      rw [z] at lt
      exact absurd lt (Nat.lt_irrefl _)
    · exact hb z
  show wpAny (model P w) (A.deeper (envOfC qual scope s.heap.objs.size f cd)) (leaving (envOfC qual scope s.heap.objs.size f cd) (.ref a)) (fun _ s'' => CXR P w outer H s E (.ref a) s'') (fun e' s'' => CXR P w outer H s E e' s'') s2
  refine LX.leave_next (env := envOfC qual scope s.heap.objs.size f cd) (outer := outer) (L := s.heap.objs.size) J.ok.frames rfl fly fun h' fly' up => ?_
  have u1 : Un (frs outer) [] H H' s.heap s2.heap := J.base
  exact ⟨a, C, dx, H', B, rfl, J.os, J.bare, un_on u1 fly.st fly'.st c1' up (frames_nofields (fly.ff.2.2)), hok_on J.hok fly.st fly'.st c2, fly', c1', c2, hn, hE⟩
theorem frames_base {h b B : Heap} : ∀ {l : List Env}, h.FunFrames b l -> (∀ a ∈ frs l, B.get? a = none) -> h.FunFrames B l
  | [], _, _ => trivial
  | env :: r, ⟨hk, ⟨L, o, hf, hn, ho, hd⟩, hr⟩, hB => ⟨hk, ⟨L, o, hf, hB L (by unfold frs; rw [List.filterMap_cons, hf]; exact List.mem_cons_self), ho, hd⟩, frames_base hr fun a ha => hB a (by
    unfold frs
    rw [List.filterMap_cons, hf]
    exact List.mem_cons_of_mem _ ha)⟩
theorem throw_r {pins : List (Addr × Obj)} {σ : St} {H1 : Hp} {s1 : Shared} {a C dx : Addr} {vs : Array Value}
    (I : Inv (cxOf (CXR P w) P w K mg base N qual scope f cd A outer s H E) pins σ H1 s1) (ha : H1 a = some (XOb a C vs (some dx))) (hv : vs[1]? = some .none) (hnew : s.heap.objs.size <= a) (hE : E (.ref C) (some dx) (cutH H1 a)) :
    (cxOf (CXR P w) P w K mg base N qual scope f cd A outer s H E).xe (.ref a) s1 := by
  obtain ⟨sl, hob⟩ := I.hok.xob ha
  have nfr : ∀ b ∈ frs (cxOf (CXR P w) P w K mg base N qual scope f cd A outer s H E).stack, b ≠ a := fun b hb z => by
    have := I.stkFree b hb
    rw [z, ha] at this
    cases this
  let l := a :: frs (cxOf (CXR P w) P w K mg base N qual scope f cd A outer s H E).stack
  let B := PySem.W.hideAll s1.heap l
  have stB : B.StaysIn s1.heap := fun b o q => PySem.W.of_hideAll l q
  have inB : ∀ b o, s1.heap.get? b = some o -> b ≠ a -> b ∉ frs (cxOf (CXR P w) P w K mg base N qual scope f cd A outer s H E).stack -> B.get? b = some o := fun b o q h1 h2 => PySem.W.hideAll_get l q (by
    intro z
    rcases List.mem_cons.mp z with z | z
    · exact h1 z
    · exact h2 z)
  have c1' : ∀ b o, s.heap.get? b = some o -> b ∉ frs outer -> ∃ o', B.get? b = some o' := fun b o q hb => by
    obtain ⟨o1, q1⟩ := I.base.there b o q (by simp [cxOf])
    refine ⟨o1, inB b o1 q1 (Nat.ne_of_lt (Nat.lt_of_lt_of_le (Heap.lt_size q) hnew)) fun hm => ?_⟩
    rcases List.mem_cons.mp (I.stkSub b hm) with z | z
    · have lt := Heap.lt_size q
      rw [z] at lt
      exact absurd lt (Nat.lt_irrefl _)
    · exact hb z
  have c2 : ∀ b u, cutH H1 a b = some u -> ∃ o', B.get? b = some o' := fun b u q => by
    have hba : b ≠ a := fun z => by subst z; rw [cut_same] at q; cases q
    rw [cut_ne hba] at q
    obtain ⟨o, ho⟩ : ∃ o, s1.heap.get? b = some o := by
      have lt := I.hok.lt q
      cases hq : s1.heap.get? b with
      | some o => exact ⟨o, rfl⟩
      | none =>
        exfalso
        have x := I.hok b u q
        cases u with
        | lst xs => obtain ⟨_, _, _, _, e⟩ := x; rw [hq] at e; cases e
        | tup xs => obtain ⟨_, _, _, ob, e, _⟩ := x; rw [hq] at e; cases e
        | dK kvs => obtain ⟨_, _, _, _, o, _, _, e, _⟩ := x; rw [hq] at e; cases e
        | dT kvs => obtain ⟨_, _, _, _, o, _, _, e, _⟩ := x; rw [hq] at e; cases e
        | set S n => obtain ⟨o, _, _, _, e, _⟩ := x; rw [hq] at e; cases e
        | ins C dx fs => obtain ⟨_, _, _, e, _⟩ := x; rw [hq] at e; cases e
        | own y => obtain ⟨_, e⟩ := x; rw [hq] at e; cases e
        | xd fs => obtain ⟨_, ⟨_, _, _, e, _⟩, _⟩ := x; rw [hq] at e; cases e
        | rng lo hi => obtain ⟨_, _, _, e⟩ := x; rw [hq] at e; cases e
        | frz ob u => obtain ⟨e, _⟩ := x; rw [hq] at e; cases e
        | tbl ps => have e : s1.heap.get? b = some _ := x; rw [hq] at e; cases e
        | met f y => have e : s1.heap.get? b = some _ := x; rw [hq] at e; cases e
        | ext φ => obtain ⟨_, ⟨_, e⟩, _⟩ := x; rw [hq] at e; cases e
    exact ⟨o, inB b o ho hba fun hm => by rw [I.stkFree b hm] at q; cases q⟩
  have ok1 : HOk P w (cutH H1 a) s1.heap := fun b u q => by
    have hba : b ≠ a := fun z => by subst z; rw [cut_same] at q; cases q
    rw [cut_ne hba] at q
    refine (I.hok b u q).stay (fun c v _ z => z) (fun c z => ?_) fun c xs z => ?_
    · rw [cut_ne (fun y => by subst y; rw [ha] at z; cases z)]; exact z
    · rw [cut_ne (fun y => by subst y; rw [ha] at z; cases z)]; exact z
  have un1 : Un (frs outer) [] H (cutH H1 a) s.heap s1.heap := by
    have u0 : Un (frs outer) [] H H1 s.heap s1.heap := I.base
    refine ⟨u0.keep, u0.slot, fun b o q n hx => ?_, u0.there, fun b xs q => ?_, fun b o u q => ?_, fun b ps q => ?_⟩
    · rw [cut_ne (Nat.ne_of_lt (Nat.lt_of_lt_of_le (Heap.lt_size q) hnew))]; exact u0.free b o q n hx
    · have z := u0.tups b xs q
      rw [cut_ne (fun y => by subst y; rw [ha] at z; cases z)]; exact z
    · have z := u0.frzs b o u q
      rw [cut_ne (fun y => by subst y; rw [ha] at z; cases z)]; exact z
    · obtain ⟨m, z⟩ := u0.tbls b ps q
      exact ⟨m, by rw [cut_ne (fun y => by subst y; rw [ha] at z; cases z)]; exact z⟩
  have noB : B.get? a = none := PySem.W.hideAll_none l List.mem_cons_self
  have ffB : s1.heap.FunFrames B (envOfC qual scope s.heap.objs.size f cd :: outer) := frames_base I.stack fun b hb => PySem.W.hideAll_none l (List.mem_cons_of_mem _ hb)
  show wpAny (model P w) (A.deeper (envOfC qual scope s.heap.objs.size f cd)) (leaving (envOfC qual scope s.heap.objs.size f cd) (.ref a)) (fun _ s'' => CXR P w outer H s E (.ref a) s'') (fun e' s'' => CXR P w outer H s E e' s'') s1
  refine LX.leave_first (env := envOfC qual scope s.heap.objs.size f cd) (outer := outer) (L := s.heap.objs.size) (C := C) (dx := dx) (vs := vs) I.ok.frames ffB rfl hob rfl rfl rfl hv stB noB fun h' fly' up => ?_
  exact ⟨a, C, dx, cutH H1 a, B, rfl, I.os, I.bare, un_on un1 stB fly'.st c1' up (frames_nofields ffB.2.2), hok_on ok1 stB fly'.st c2, fly', c1', c2, cut_same, hE⟩
end
end L2
end
section
set_option Elab.async false
set_option linter.all false
set_option maxRecDepth 100000
set_option maxHeartbeats 2000000
namespace L2
open PySem PySem.Spec PyProof.Rows
open LX (Fly Under XC xmro)
def xclsB (K : PySem.W.Frag) (C : Addr) : Bool := match K.lookup C with
  | some ⟨.type ty, _, .cls cd, sl⟩ => ty == "type" && xmro cd.mro && cd.hasDict && !cd.hasDel && cd.mro.head? == some (.ref C) && (match sl.toList with
    | [_, _, _, _, k4, _] => k4 == some (.builtin "Exception.__new__")
    | _ => false)
  | _ => false
theorem xmro_under : ∀ {l : List Value}, xmro l = true -> Under l
  | [.type a, .type b, .type c], e => by
    simp only [xmro, Bool.and_eq_true, beq_iff_eq] at e
    obtain ⟨⟨rfl, rfl⟩, rfl⟩ := e
    exact ⟨by decide, by decide, by decide, by decide⟩
  | .ref c :: r, e => by
    have u := xmro_under (l := r) e
    exact ⟨by rw [List.contains_cons, u.b1]; exact Bool.or_true _, by rw [List.contains_cons, u.b2]; exact Bool.or_true _, by rw [List.contains_cons, u.b3]; rfl, by rw [List.contains_cons, u.b4]; rfl⟩
structure XCls (K : PySem.W.Frag) (C : Addr) : Prop where
  obj : xclsB K C = true
  sa : PySem.W.findIn K (.ref C) "__setattr__" = some (some (.builtin "object.__setattr__"))
  ga : PySem.W.findIn K (.ref C) "__getattribute__" = some (some (.builtin "BaseException.__getattribute__"))
  gh : PySem.W.findIn K (.ref C) "__getattr__" = some none
theorem XCls.out {K : PySem.W.Frag} {C : Addr} (c : XCls K C) : ∃ (cd : ClassData) (bm : List Value), PySem.W.clsIn K C = some cd /\ xmro cd.mro = true /\ cd.hasDict = true /\ cd.mro = .ref C :: bm /\ xmro bm = true /\ ∃ nm q N bs hdct sn sub ab col dd k0 k1 k2 k3 k5,
    K.lookup C = some (excClassObj nm q C N bs bm hdct sn sub ab col dd k0 k1 k2 k3 k5 "Exception.__new__") := by
  have e := c.obj
  unfold xclsB at e
  split at e
  · rename_i ty od cd sl ho
    simp only [Bool.and_eq_true, Bool.not_eq_true', beq_iff_eq] at e
    obtain ⟨⟨⟨⟨⟨e1, e2⟩, e3⟩, e4⟩, e5⟩, e6⟩ := e
    subst e1
    obtain ⟨sl⟩ := sl
    dsimp only at e6
    split at e6
    · rename_i k0 k1 k2 k3 k4 k5
      have e6 := beq_iff_eq.mp e6
      subst e6
      obtain ⟨nm, bs, mro, ns, q, hd, sn, sub, ab, col, del⟩ := cd
      cases mro with
      | nil => cases e5
      | cons m bm =>
        have e5 : m = .ref C := Option.some.inj e5
        subst e5
        have e4 : del = false := e4
        subst e4
        exact ⟨_, bm, by unfold PySem.W.clsIn; rw [ho], e2, e3, rfl, e2, nm, q, ns, bs, hd, sn, sub, ab, col, od, k0, k1, k2, k3, k5, ho⟩
    · cases e6
  · cases e
section
variable {X : Cx} {pins : List (Addr × Obj)} {σ : St} {H : Hp} {s : Shared} {e C : Addr} {f : Str} {A : Around} {E : Value -> Shared -> Prop} {vs : Array Value}
theorem xset0_ok {y : V} {u : Value} {Q : Unit -> Shared -> Prop} (I : Inv X pins σ H s) (he : H e = some (XOb e C vs none)) (c : XCls X.K C) (n : NoAttr X.K C f) (ry : RelV y u)
    (h : ∀ dx s', H dx = none -> dx ≠ e -> Inv X pins σ (upd (upd H dx (XDi dx [(f, y)])) e (XOb e C vs (some dx))) s' -> Q () s') : wpAny (model X.prog X.w) A (setAttr (.ref e) f u) Q E s := by
  obtain ⟨cd, bm, hc, hm, hd, _⟩ := c.out
  obtain ⟨sl, ho⟩ := I.hok.xob he
  refine LX.x_set0 I.kIn ho hc hm hd c.sa n fun h' tk q1 q2 q3 => h s.heap.objs.size _ (I.hok.fresh (Nat.le_refl _)) (Nat.ne_of_gt (Heap.lt_size ho)) ?_
  have hn : H s.heap.objs.size = none := I.hok.fresh (Nat.le_refl _)
  have nde : s.heap.objs.size ≠ e := Nat.ne_of_gt (Heap.lt_size ho)
  have e1 : ObjOk X.prog X.w (upd (upd H s.heap.objs.size (XDi s.heap.objs.size [(f, y)])) e (XOb e C vs (some s.heap.objs.size))) h' s.heap.objs.size (XDi s.heap.objs.size [(f, y)]) := by
    refine xdi_ok q2 (fun g => ?_) fun g hg => ?_
    · show RelO (([(f, y)] : List (Str × V)).lookup g) (if g = f then some u else none)
      rw [List.lookup_cons]
      by_cases z : g = f
      · subst z; rw [if_pos rfl, beq_self_eq_true]; exact ry
      · rw [if_neg z, beq_eq_false_iff_ne.mpr z]; exact True.intro
    · by_cases z : g = f
      · subst z; exact List.mem_cons_self
      · exact absurd (if_neg z) hg
  have un : Un X.fs [] H (upd (upd H s.heap.objs.size (XDi s.heap.objs.size [(f, y)])) e (XOb e C vs (some s.heap.objs.size))) s.heap h' := by
    have lt : ∀ b o, s.heap.get? b = some o -> b ≠ s.heap.objs.size := fun b o q => Nat.ne_of_lt (Heap.lt_size q)
    have ne : ∀ b, H b = none -> b ≠ e := fun b q z => by subst z; rw [he] at q; cases q
    have nx : ∀ b u, H b = some u -> (∀ φ, u ≠ .ext φ) -> b ≠ e := fun b u q hu z => by subst z; rw [he] at q; cases q; exact hu _ rfl
    refine ⟨fun b o q n1 _ _ => q3 b o (ne b n1) q, fun b o q n1 _ _ => ⟨o.slots, q3 b o (ne b n1) q⟩, fun b o q n1 _ => ?_, fun b o q _ => ?_, fun b xs q => ?_, fun b o w' q => ?_, fun b ps q => ⟨#[], ?_⟩⟩
    · rw [upd_ne (ne b n1), upd_ne (lt b o q)]; exact n1
    · by_cases z : b = e
      · subst z; exact ⟨_, q1⟩
      · exact ⟨o, q3 b o z q⟩
    · rw [upd_ne (nx b _ q (fun φ z => by cases z)), upd_ne (ne_of_none q hn)]; exact q
    · rw [upd_ne (nx b _ q (fun φ z => by cases z)), upd_ne (ne_of_none q hn)]; exact q
    · rw [upd_ne (nx b _ q (fun φ z => by cases z)), upd_ne (ne_of_none q hn), q]; simp
  refine I.un un fun b w' q => ?_
  by_cases z : b = e
  · subst z
    rw [upd_same] at q
    cases q
    exact xob_ok q1
  · rw [upd_ne z] at q
    by_cases z2 : b = s.heap.objs.size
    · subst z2
      rw [upd_same] at q
      cases q
      exact e1
    · rw [upd_ne z2] at q
      refine (I.hok b w' q).stay (fun c u' hc' r => q3 c u' ?_ r) (fun c r => ?_) fun c xs r => ?_
      · rcases hc' with rfl | hc'
        · exact z
        · intro y'; subst y'; rw [he] at hc'; cases hc'
      · rw [upd_ne (fun y' => by subst y'; rw [he] at r; cases r), upd_ne (ne_of_none r hn)]; exact r
      · rw [upd_ne (fun y' => by subst y'; rw [he] at r; cases r), upd_ne (ne_of_none r hn)]; exact r
theorem xset1_ok {y : V} {u : Value} {dx : Addr} {fs : List (Str × V)} {Q : Unit -> Shared -> Prop} (I : Inv X pins σ H s) (he : H e = some (XOb e C vs (some dx))) (hdx : H dx = some (XDi dx fs)) (hl : fs.length < 1000) (c : XCls X.K C) (n : NoAttr X.K C f) (ry : RelV y u)
    (h : ∀ s', Inv X pins σ (upd H dx (XDi dx (putF f y fs))) s' -> Q () s') : wpAny (model X.prog X.w) A (setAttr (.ref e) f u) Q E s := by
  obtain ⟨cd, bm, hc, hm, hd, _⟩ := c.out
  obtain ⟨sl, ho⟩ := I.hok.xob he
  obtain ⟨mA, hn, r, wi⟩ := I.hok.xdi hdx
  refine LX.x_set1 I.kIn ho hn wi (by rw [List.length_map]; omega) hc hm hd c.sa n fun h' tk q1 q2 => h _ ?_
  refine I.write (x := dx) (e := dx) (by rw [hdx]; exact True.intro) (.inl rfl) (fun b o hb q => (q2.2 b hb).trans q) (let ⟨o, _, _, z, _⟩ := q1; ⟨o, z⟩) ?_
  refine xdi_ok q1 (fun g => ?_) fun g hg => ?_
  · show RelO ((putF f y fs).lookup g) (if g = f then some u else mA g)
    rw [lookup_putF]
    by_cases z : g = f
    · rw [if_pos z, if_pos z]; exact ry
    · rw [if_neg z, if_neg z]; exact r g
  · by_cases z : g = f
    · rw [z]; exact (keys_putF f y fs).1
    · refine (keys_putF f y fs).2 g (wi g fun q => hg ?_)
      show (if g = f then some u else mA g) = none
      rw [if_neg z]; exact q
theorem xget_ok {b : Bool} {v : V} {dx : Addr} {fs : List (Str × V)} {Q : Value -> Shared -> Prop} (I : Inv X pins σ H s) (he : H e = some (XOb e C vs (some dx))) (hdx : H dx = some (XDi dx fs)) (c : XCls X.K C) (n : NoAttr X.K C f) (l : fs.lookup f = some v)
    (h : ∀ u s', Inv X pins σ H s' -> RelV v u -> Q u s') : wpAny (model X.prog X.w) A (getAttr (.ref e) f b) Q E s := by
  obtain ⟨cd, bm, hc, hm, hd, em, hbm, _⟩ := c.out
  obtain ⟨sl, ho⟩ := I.hok.xob he
  obtain ⟨mA, hn, r, wi⟩ := I.hok.xdi hdx
  obtain ⟨u, hu, ru⟩ := RelO.some_of (v := v) (o := mA f) (by rw [<- l]; exact r f)
  obtain ⟨od, hod, hlook⟩ := lookIn_ns hn
  have J : PySem.W.InstAt s.heap e ⟨.ref C, some dx, .fields vs, sl⟩ C (some od) := ⟨ho, rfl, rfl, hod⟩
  refine LX.x_get I.kIn J c.ga c.gh ?_ (PySem.W.findObj_own (by show (PySem.W.clsIn X.K C).any _ = true; rw [hc]; exact hd) n rfl (by rw [hlook, hu])) (handed_of ru) (h u _ (I.tok _) ru)
  unfold PySem.W.mroIn
  rw [hc, Option.bind_some, if_neg (by rw [LX.xmro_ne hm]; decide), (xmro_under hm).b2]
end
def sXFld0 (K : PySem.W.Frag) (ta tv : TE) (f : Str) : TS := fun D σ H => tv σ H fun y H1 => ta σ H1 fun x H2 => ∃ e C vs, x = .ref e /\ H2 e = some (XOb e C vs none) /\ XCls K C /\ NoAttr K C f /\
  ∀ dx, H2 dx = none -> dx ≠ e -> D.nx σ (upd (upd H2 dx (XDi dx [(f, y)])) e (XOb e C vs (some dx)))
def sXFld1 (K : PySem.W.Frag) (ta tv : TE) (f : Str) : TS := fun D σ H => tv σ H fun y H1 => ta σ H1 fun x H2 => ∃ e C vs dx fs, x = .ref e /\ H2 e = some (XOb e C vs (some dx)) /\ H2 dx = some (XDi dx fs) /\ fs.length < 1000 /\ XCls K C /\ NoAttr K C f /\
  D.nx σ (upd H2 dx (XDi dx (putF f y fs)))
def tXFld (K : PySem.W.Frag) (ta : TE) (f : Str) : TE := fun σ H Q => ta σ H fun x H1 => ∃ e C vs dx fs v, x = .ref e /\ H1 e = some (XOb e C vs (some dx)) /\ H1 dx = some (XDi dx fs) /\ XCls K C /\ NoAttr K C f /\ fs.lookup f = some v /\ Q v H1
section
variable {X : Cx} {o e value : Expr} {f : Str} {pos pos' : Pos} {ta tv : TE}
theorem ps_xfld0 (ha : PE X o ta) (hv : PE X value tv) (hs : swapsWith value (some (.Attribute o f pos')) pos.line X.env = pure false) : PS X (.Assign [.Attribute o f pos'] value pos) (sXFld0 X.K ta tv f) := by
  intro pins s σ H D I h
  refine plainObj_wpAny_Assign_Attribute (thn (hv pins s σ H _ I h) fun u s1 ⟨y, H1, I1, ry, q⟩ => thn (ha pins s1 σ H1 _ I1 q) fun ov s2 ⟨x, H2, I2, rx, a, C, vs, ex, ea, c, n, q2⟩ => ?_) hs
  subst ex
  obtain rfl : ov = Value.ref a := rx
  exact xset0_ok I2 ea c n ry fun dx s3 z1 z2 I3 => ⟨σ, _, I3, q2 dx z1 z2⟩
theorem ps_xfld1 (ha : PE X o ta) (hv : PE X value tv) (hs : swapsWith value (some (.Attribute o f pos')) pos.line X.env = pure false) : PS X (.Assign [.Attribute o f pos'] value pos) (sXFld1 X.K ta tv f) := by
  intro pins s σ H D I h
  refine plainObj_wpAny_Assign_Attribute (thn (hv pins s σ H _ I h) fun u s1 ⟨y, H1, I1, ry, q⟩ => thn (ha pins s1 σ H1 _ I1 q) fun ov s2 ⟨x, H2, I2, rx, a, C, vs, dx, fs, ex, ea, ed, hl, c, n, q2⟩ => ?_) hs
  subst ex
  obtain rfl : ov = Value.ref a := rx
  exact xset1_ok I2 ea ed hl c n ry fun s3 I3 => ⟨σ, _, I3, q2⟩
theorem pe_xfld (he : PE X e ta) (hb : attributeBase e f X.env (eval e X.env) = eval e X.env) : PE X (.Attribute e f pos) (tXFld X.K ta f) := by
  intro pins s σ H Q I h
  refine attr_of hb (thn (he pins s σ H _ I h) fun u s1 ⟨x, H1, I1, rx, a, C, vs, dx, fs, v, ex, ea, ed, c, n, l, q⟩ => ?_)
  subst ex
  obtain rfl : u = Value.ref a := rx
  exact xget_ok I1 ea ed c n l fun u' s2 I2 ru => ⟨v, H1, I2, ru, q⟩
end
end L2
end
section
set_option Elab.async false
set_option linter.all false
set_option maxRecDepth 100000
set_option maxHeartbeats 2000000
namespace L2
open PySem PySem.Spec PyProof.Rows
open LX (Fly Under XC xmro)
structure ClsFn (K : PySem.W.Frag) (C : Addr) (m : Str) (f : Addr) : Prop where
  ga : PySem.W.specialIn K (.ref C) "__getattribute__" = some (some (.builtin "type.__getattribute__"))
  rd : PySem.W.readsIn K C (.type "type") = true
  at_ : PySem.W.findCls K (.ref C) (.type "type") m = some (.val (.ref f))
  kp : PySem.W.keepIn K (.ref f) = true
section
variable {X : Cx} {CX : CXT} {k : Nat} {f C : Addr} {fd : FuncData} {ps : List Str} {sp : Sp} {dvs : List V} {ds : List Value} {E : XK} {x m : Str} {p pos apos : Pos} {e : Expr} {es : List Expr} {t : TA}
theorem pe_clsCall {pl : Sem Bool} (hg : Gl X x) (hm : X.mg x = some (.ref C)) (c : ClsFn X.K C m f) (F : FnOk X.prog X.w X.K X.mg X.base CX k f fd ps sp) (hr : Room k X.A) (hb : Binds X.K fd ps ds) (hd : Vals dvs ds) (hx : Passes CX X E) (ha : PA X (e :: es) t)
    (hdb : (x == ("__debug__" : Str)) = false := by decide)
    (hst : starEach (e :: es) X.env = (false, eval e X.env) :: starEach es X.env := by rfl) (hpl : (backTo pos (starEach es X.env)).any (·.1) = false := by rfl)
    (ht : eval (.Call (.Attribute (.Name x p) m apos) (e :: es) [] pos) X.env = (do
      let ov <- eval (.Name x p) X.env
      standAt apos.atName
      let (f, first) <- holding [ov] (getMethod ov m pl)
      callWith pos f first (backTo pos (starEach (e :: es) X.env)) (backToKw pos (keywordEach [] X.env))) := by rfl) :
    PE X (.Call (.Attribute (.Name x p) m apos) (e :: es) [] pos) (tCall sp dvs E t) := by
  intro pins s σ H Q I h
  refine PySem.W.methodCall_KW (pl := pl) (ld_glob I hg hm ?_ hdb) ht
  refine PySem.W.method_cls I.kIn c.ga (PySem.W.cls_value I.kIn c.rd c.at_ rfl ?_)
  refine PySem.W.callWith_K (first := []) (h₀ := X.base) I.ok.mod.kin c.kp (thn (ha pos pins _ σ H _ (I.tok _) h) fun us s2 ⟨vs, H2, I2, r, q2⟩ => ⟨I2.kIn, ?_⟩) hst hpl
  exact run_fn F hr hb hd hx I2 r q2
end
abbrev xv (t : Addr) : Array Value := #[.ref t, .none, .none, .none, .bool false, .none]
def tRaise (C : Addr) (sp : Sp) (E : XK) (t : TA) : TS := fun _ σ H => t σ H fun vs H1 => vs.length <= 1000 /\ ∀ a ta, H1 a = none -> sp (.ref a :: vs) (upd H1 a (XOb a C (xv ta) none)) (fun v H2 => v = .non /\ ∃ dx, H2 a = some (XOb a C (xv ta) (some dx)) /\ E (.ref C) (some dx) (cutH H2 a)) E0
structure XMk (K : PySem.W.Frag) (C f : Addr) : Prop where
  cls : XCls K C
  init : PySem.W.findIn K (.ref C) "__init__" = some (some (.ref f))
  fn : PySem.W.isFn K (.ref f) = true
  kp : PySem.W.keepIn K (.ref C) = true
theorem XCls.xc {K : PySem.W.Frag} {C : Addr} (c : XCls K C) : ∃ nm q N bs bm hdct sn sub ab col dd k0 k1 k2 k3 k5, Under bm /\ xmro bm = true /\ ∀ h, K.In h -> XC h nm q C N bs bm hdct sn sub ab col dd k0 k1 k2 k3 k5 := by
  obtain ⟨cd, bm, _, _, _, _, hbm, nm, q, N, bs, hdct, sn, sub, ab, col, dd, k0, k1, k2, k3, k5, lk⟩ := c.out
  exact ⟨nm, q, N, bs, bm, hdct, sn, sub, ab, col, dd, k0, k1, k2, k3, k5, xmro_under hbm, hbm, fun h X => X _ _ lk⟩
theorem fn_at {K : PySem.W.Frag} {f : Addr} (h : PySem.W.isFn K (.ref f) = true) : ∃ o, K.lookup f = some o /\ o.cls = .type "function" := by
  have e : PySem.W.typeIn K (.ref f) = some (.type "function") := beq_iff_eq.mp h
  obtain ⟨o, ho, hc⟩ := Option.map_eq_some_iff.mp e
  exact ⟨o, ho, hc⟩
section
variable {P : Program} {w : World} {K : PySem.W.Frag} {mg : Str -> Option Value} {base : Heap} {N : List Str} {qual : Str} {scope : Scope} {f : Addr} {cd : Value} {A : Around} {outer : List Env} {s0 : Shared} {H0 : Hp} {E : XK}
variable {k : Nat} {fI C : Addr} {fd : FuncData} {ps : List Str} {sp : Sp} {x : Str} {np cpos pos : Pos} {es : List Expr} {t : TA}
theorem raise_run {pins : List (Addr × Obj)} {σ : St} {H : Hp} {s : Shared} {us : List Value} {vs : List V}
    (M : XMk K C fI) (F : FnOk P w K mg base CX0 k fI fd ps sp) (hr : Room (k + 1) (cxOf (CXR P w) P w K mg base N qual scope f cd A outer s0 H0 E).A) (hb : Binds K fd ps [])
    (I : Inv (cxOf (CXR P w) P w K mg base N qual scope f cd A outer s0 H0 E) pins σ H s) (r : Vals vs us) (hl : vs.length <= 1000)
    (h : ∀ a ta, H a = none -> sp (.ref a :: vs) (upd H a (XOb a C (xv ta) none)) (fun v H2 => v = .non /\ ∃ dx, H2 a = some (XOb a C (xv ta) (some dx)) /\ E (.ref C) (some dx) (cutH H2 a)) E0) :
    wpAny (model P w) (cxOf (CXR P w) P w K mg base N qual scope f cd A outer s0 H0 E).A (call (.ref C) us)
      (fun v s1 => ∃ (a ta dx : Addr) (H2 : Hp), v = .ref a /\ Inv (cxOf (CXR P w) P w K mg base N qual scope f cd A outer s0 H0 E) pins σ H2 s1 /\ s0.heap.objs.size <= a /\ H2 a = some (XOb a C (xv ta) (some dx)) /\ E (.ref C) (some dx) (cutH H2 a))
      (cxOf (CXR P w) P w K mg base N qual scope f cd A outer s0 H0 E).xe s := by
  obtain ⟨nm, q, N', bs, bm, hdct, sn, sub, ab, col, dd, k0, k1, k2, k3, k5, U, _, hC⟩ := M.cls.xc
  obtain ⟨oI, hoI, hcI⟩ := fn_at M.fn
  have KX : K.In s.heap := I.kIn
  obtain ⟨hh, g, d, tk, os⟩ := s
  refine LX.x_call U (hC _ KX) (PySem.W.looks_findIn KX M.init) (KX _ _ hoI) hcI (by rw [<- r.length, sizeLine_eq]; omega) fun h' a hsz hm => ?_
  obtain ⟨ta, ht, _, _⟩ := hm.there
  have hq := h a ta (I.hok.fresh hsz)
  have I2 : Inv (cxOf (CXR P w) P w K mg base N qual scope f cd A outer s0 H0 E) pins σ (upd H a (XOb a C (xv ta) none)) ⟨h', g, d, tk, os⟩ := I.laid (t' := tk) hm.keeps hsz (xob_ok ht)
  have r2 : Vals (V.ref a :: vs) (Value.ref a :: us) := .cons rfl r
  have hl2 : (Value.ref a :: us ++ []).length = ps.length := by
    rw [List.append_nil, <- r2.length]
    exact F.len _ _ _ _ hq
  refine wpAny_call (codeAny_mono (F.run _ _ _ _ ⟨Value.ref a :: us, []⟩ (Value.ref a :: us) _ _ _ (hr.make C us []) (I2.env0.make C us []) ?_ r2 hq) fun res s' hq' => ?_)
  · have := hb ⟨h', g, d, tk, os⟩ (Value.ref a :: us) I2.kIn hl2
    rw [List.append_nil] at this
    exact this
  · cases res with
    | error e => exact False.elim hq'
    | ok fl =>
      cases fl with
      | ret u =>
        obtain ⟨v, H', I3, rv, ev, dx, z1, z2⟩ := I2.after hq'
        subst ev
        exact ⟨rv, a, ta, dx, H', rfl, I3, Nat.le_trans I.sz hsz, z1, z2⟩
      | next => exact False.elim hq'
      | brk => exact False.elim hq'
      | cont => exact False.elim hq'
theorem raise_end {pins : List (Addr × Obj)} {σ : St} {s : Shared} {xe : Sem Value} {D : Flow -> Shared -> Prop} {env : Env} (M : XMk K C fI) (hh : (cxOf (CXR P w) P w K mg base N qual scope f cd A outer s0 H0 E).A.handled = none)
    (h : wpAny (model P w) (cxOf (CXR P w) P w K mg base N qual scope f cd A outer s0 H0 E).A xe
      (fun v s1 => ∃ (a ta dx : Addr) (H2 : Hp), v = .ref a /\ Inv (cxOf (CXR P w) P w K mg base N qual scope f cd A outer s0 H0 E) pins σ H2 s1 /\ s0.heap.objs.size <= a /\ H2 a = some (XOb a C (xv ta) (some dx)) /\ E (.ref C) (some dx) (cutH H2 a))
      (cxOf (CXR P w) P w K mg base N qual scope f cd A outer s0 H0 E).xe s) :
    wpAny (model P w) (cxOf (CXR P w) P w K mg base N qual scope f cd A outer s0 H0 E).A (raiseStmt env (some xe) none) D (cxOf (CXR P w) P w K mg base N qual scope f cd A outer s0 H0 E).xe s := by
  obtain ⟨nm, q, N', bs, bm, hdct, sn, sub, ab, col, dd, k0, k1, k2, k3, k5, U, _, hC⟩ := M.cls.xc
  refine LX.x_raise (C := C) (nm := nm) (q := q) (N := N') (bs := bs) (hdct := hdct) (sn := sn) (sub := sub) (ab := ab) (col := col) (dd := dd) (k0 := k0) (k1 := k1) (k2 := k2) (k3 := k3) (k5 := k5) U hh (thn h fun v s1 ⟨a, ta, dx, H2, ev, I2, hsz, z1, z2⟩ => ?_)
  obtain ⟨sl, ho⟩ := I2.hok.xob z1
  exact ⟨a, ta, some dx, sl, ev, hC _ I2.kIn, ho, throw_r I2 z1 rfl hsz z2⟩
theorem ps_raise {e : Expr} (M : XMk K C fI) (F : FnOk P w K mg base CX0 k fI fd ps sp) (hr : Room (k + 1) (cxOf (CXR P w) P w K mg base N qual scope f cd A outer s0 H0 E).A) (hb : Binds K fd ps [])
    (hg : Gl (cxOf (CXR P w) P w K mg base N qual scope f cd A outer s0 H0 E) x) (hm : mg x = some (.ref C)) (ha : PA (cxOf (CXR P w) P w K mg base N qual scope f cd A outer s0 H0 E) (e :: es) t)
    (hdb : (x == ("__debug__" : Str)) = false := by decide)
    (he : starEach (e :: es) (cxOf (CXR P w) P w K mg base N qual scope f cd A outer s0 H0 E).env = (false, eval e (cxOf (CXR P w) P w K mg base N qual scope f cd A outer s0 H0 E).env) :: starEach es (cxOf (CXR P w) P w K mg base N qual scope f cd A outer s0 H0 E).env := by rfl)
    (hpl : (backTo cpos (starEach es (cxOf (CXR P w) P w K mg base N qual scope f cd A outer s0 H0 E).env)).any (·.1) = false := by rfl) :
    PS (cxOf (CXR P w) P w K mg base N qual scope f cd A outer s0 H0 E) (.Raise (some (.Call (.Name x np) (e :: es) [] cpos)) none pos) (tRaise C sp E t) := by
  intro pins s σ H D I h
  rw [arm_exec_Raise]
  refine wpAny_bind (wpAny_standAt ?_)
  show wpAny _ _ (raiseStmt _ (some (do let v <- eval (.Call (.Name x np) (e :: es) [] cpos) (cxOf (CXR P w) P w K mg base N qual scope f cd A outer s0 H0 E).env; standAt pos; pure v)) none) _ _ _
  refine raise_end (pins := pins) (σ := σ) M hr.hd (wpAny_bind (thn ?_ fun v s1 z => wpAny_bind (wpAny_standAt (wpAny_pure z))))
  refine wpAny_Call_Name_kw (ld_glob I hg hm ?_ hdb)
  refine PySem.W.callWith_K (h₀ := base) I.ok.mod.kin M.kp (thn (ha cpos pins s σ H _ I h) fun us s1 ⟨vs, H1, I1, r, q1, q2⟩ => ⟨I1.kIn, ?_⟩) he hpl
  exact raise_run M F hr hb I1 r q1 q2
theorem ps_raise0 (M : XMk K C fI) (F : FnOk P w K mg base CX0 k fI fd ps sp) (hr : Room (k + 1) (cxOf (CXR P w) P w K mg base N qual scope f cd A outer s0 H0 E).A) (hb : Binds K fd ps [])
    (hg : Gl (cxOf (CXR P w) P w K mg base N qual scope f cd A outer s0 H0 E) x) (hm : mg x = some (.ref C)) (hdb : (x == ("__debug__" : Str)) = false := by decide) :
    PS (cxOf (CXR P w) P w K mg base N qual scope f cd A outer s0 H0 E) (.Raise (some (.Call (.Name x np) [] [] cpos)) none pos) (tRaise C sp E tNil) := by
  intro pins s σ H D I h
  obtain ⟨h1, h2⟩ := h
  rw [arm_exec_Raise]
  refine wpAny_bind (wpAny_standAt ?_)
  show wpAny _ _ (raiseStmt _ (some (do let v <- eval (.Call (.Name x np) [] [] cpos) (cxOf (CXR P w) P w K mg base N qual scope f cd A outer s0 H0 E).env; standAt pos; pure v)) none) _ _ _
  refine raise_end (pins := pins) (σ := σ) M hr.hd (wpAny_bind (thn ?_ fun v s1 z => wpAny_bind (wpAny_standAt (wpAny_pure z))))
  refine wpAny_Call_Name_kw (ld_glob I hg hm ?_ hdb)
  exact PySem.W.callWith_K0 I.kIn M.kp (raise_run (us := []) M F hr hb I .nil h1 h2)
end
end L2
end
section
set_option Elab.async false
set_option linter.all false
set_option maxRecDepth 100000
set_option maxHeartbeats 2000000
namespace L2
open PySem PySem.Spec PyProof.Rows
open LX (Fly Under XC xmro)
abbrev Cx.tr (X : Cx) (E : Value -> Shared -> Prop) (pn : List (Addr × Obj)) : Cx := { X with xe := E, pn := pn }
abbrev Cx.sut (X : Cx) (e : Addr) : Cx := { X with A := X.A.mark (some (.ref e)), calm := false, xe := fun _ _ => False }
section
variable {X : Cx} {pins : List (Addr × Obj)} {σ : St} {H : Hp} {s : Shared}
theorem Cx.Ok.tr (ok : X.Ok) (E : Value -> Shared -> Prop) (pn : List (Addr × Obj)) : (X.tr E pn).Ok :=
  ⟨ok.mod, ok.kind, ok.glob, ok.blt, ok.above, ok.inj, ok.has, ok.cab, ok.hd, ok.frames, ok.stk, ok.exf, ok.bs, ok.bsz, ok.noex, ok.exfs, ok.funs, ok.frf⟩
theorem Cx.Ok.untr {E : Value -> Shared -> Prop} {pn : List (Addr × Obj)} (ok : (X.tr E pn).Ok) : X.Ok :=
  ⟨ok.mod, ok.kind, ok.glob, ok.blt, ok.above, ok.inj, ok.has, ok.cab, ok.hd, ok.frames, ok.stk, ok.exf, ok.bs, ok.bsz, ok.noex, ok.exfs, ok.funs, ok.frf⟩
theorem Inv.tr (I : Inv X pins σ H s) (E : Value -> Shared -> Prop) : Inv (X.tr E (X.pn ++ pins)) [] σ H s := ⟨I.ok.tr _ _, I.os, I.bare, I.base, I.loc, I.cell, I.free, I.freeC, by rw [List.append_nil]; exact I.pin, I.hok, I.len⟩
theorem Inv.untr {E : Value -> Shared -> Prop} {more : List (Addr × Obj)} (I : Inv (X.tr E (X.pn ++ pins)) more σ H s) : Inv X pins σ H s := ⟨I.ok.untr, I.os, I.bare, I.base, I.loc, I.cell, I.free, I.freeC, fun p hp => I.pin p (List.mem_append_left _ hp), I.hok, I.len⟩
theorem SP.untr {E : Value -> Shared -> Prop} {D : Ends} {f : Flow} {s' : Shared} (h : SP (X.tr E (X.pn ++ pins)) [] D f s') : SP X pins D f s' := by
  cases f with
  | next => obtain ⟨σ', H', I, q⟩ := h; exact ⟨σ', H', I.untr, q⟩
  | brk => obtain ⟨σ', H', I, q⟩ := h; exact ⟨σ', H', I.untr, q⟩
  | cont => obtain ⟨σ', H', I, q⟩ := h; exact ⟨σ', H', I.untr, q⟩
  | ret u => obtain ⟨v, σ', H', I, r, q⟩ := h; exact ⟨v, σ', H', I.untr, r, q⟩
theorem Inv.sut (I : Inv X pins σ H s) (e : Addr) : Inv (X.sut e) pins σ H s :=
  ⟨⟨I.ok.mod, I.ok.kind, I.ok.glob, I.ok.blt, I.ok.above, I.ok.inj, I.ok.has, I.ok.cab, fun z => (by cases z), I.ok.frames, I.ok.stk, I.ok.exf, I.ok.bs, I.ok.bsz, I.ok.noex, I.ok.exfs, I.ok.funs, I.ok.frf⟩,
    I.os, I.bare, I.base, I.loc, I.cell, I.free, I.freeC, I.pin, I.hok, I.len⟩
theorem Inv.unsut {e : Addr} (hd : X.calm = true -> X.A.handled = none) (I : Inv (X.sut e) pins σ H s) : Inv X pins σ H s :=
  ⟨⟨I.ok.mod, I.ok.kind, I.ok.glob, I.ok.blt, I.ok.above, I.ok.inj, I.ok.has, I.ok.cab, hd, I.ok.frames, I.ok.stk, I.ok.exf, I.ok.bs, I.ok.bsz, I.ok.noex, I.ok.exfs, I.ok.funs, I.ok.frf⟩,
    I.os, I.bare, I.base, I.loc, I.cell, I.free, I.freeC, I.pin, I.hok, I.len⟩
theorem Inv.track {a : Addr} {o : HO} (I : Inv X pins σ H s) (hn : H a = none) (h0 : X.s_0.heap.get? a = none) (hL : a ≠ X.env.locals) (hc : ∀ x c, X.env.cells.lookup x = some c -> c ≠ a) (hp : ∀ p ∈ X.pn ++ pins, p.1 ≠ a)
    (new : ObjOk X.prog X.w (upd H a o) s.heap a o) : Inv X pins σ (upd H a o) s := by
  refine ⟨I.ok, I.os, I.bare, ⟨I.base.keep, I.base.slot, fun b ob q n hx => ?_, I.base.there, fun b xs q => ?_, fun b ob u q => ?_, fun b ps q => ?_⟩, I.loc, I.cell, ?_, fun x c q => ?_, fun p z => ?_, fun b u q => ?_, I.len⟩
  · rw [upd_ne (fun z => by subst z; rw [h0] at q; cases q)]; exact I.base.free b ob q n hx
  · have z := I.base.tups b xs q
    rw [upd_ne (ne_of_none z hn)]; exact z
  · have z := I.base.frzs b ob u q
    rw [upd_ne (ne_of_none z hn)]; exact z
  · obtain ⟨m, z⟩ := I.base.tbls b ps q
    exact ⟨m, by rw [upd_ne (ne_of_none z hn)]; exact z⟩
  · rw [upd_ne (Ne.symm hL)]; exact I.free
  · rw [upd_ne (hc x c q)]; exact I.freeC x c q
  · obtain ⟨e1, e2, e3⟩ := I.pin p z
    exact ⟨e1, by rw [upd_ne (hp p z)]; exact e2, e3⟩
  · by_cases z : b = a
    · subst z; rw [upd_same] at q; cases q; exact new
    · rw [upd_ne z] at q
      refine (I.hok b u q).stay (fun c v _ r => r) (fun c r => ?_) fun c xs r => ?_
      · rw [upd_ne (ne_of_none r hn)]; exact r
      · rw [upd_ne (ne_of_none r hn)]; exact r
end
def subB (K : PySem.W.Frag) (C S : Addr) : Prop := ∃ cd, PySem.W.clsIn K C = some cd /\ cd.mro.contains (.ref S) = true
def tTry (K : PySem.W.Frag) (S : Addr) (i len : Nat) (tb : XK -> TS) (ts : TS) : TS := fun D σ H => tb (fun c dx H' => ∃ C d, c = .ref C /\ dx = some d /\ XCls K C /\ subB K C S /\
  ∀ a xs, H' a = none -> ts { nx := fun _ _ => False, rt := D.rt } ((List.replicate len none).set i (some (.ref a))) (upd H' a (XOb a C xs (some d)))) D σ H
theorem blank_weak {X : Cx} {pins : List (Addr × Obj)} {σ : St} {H : Hp} {s : Shared} (I : Inv X pins σ H s) : Inv X pins (List.replicate X.N.length none) H s := I.weak (by rw [List.length_replicate, I.len]) fun i v e => by
  rw [List.getElem?_replicate] at e
  split at e <;> cases e
theorem Inv.gone {X : Cx} {pins : List (Addr × Obj)} {H : Hp} {s : Shared} {h' : Heap} {m' : Str -> Option Value} {t' : Nat} (I : Inv X pins (List.replicate X.N.length none) H s) (hn : h'.Ns X.env.locals m') (sb : Heap.SameBut X.env.locals s.heap h') :
    Inv X pins (List.replicate X.N.length none) H { s with heap := h', toks := t' } := by
  have k : ∀ b o, b ≠ X.env.locals -> s.heap.get? b = some o -> h'.get? b = some o := fun b o z e => (sb.2 b z).trans e
  have nL : ∀ b o, X.s_0.heap.get? b = some o -> b ≠ X.env.locals := fun b o e => Nat.ne_of_lt (Nat.lt_of_lt_of_le (Heap.lt_size e) I.ok.above)
  refine ⟨I.ok, I.os, I.bare, ⟨fun b o e n hb hx => k b o (nL b o e) (I.base.keep b o e n hb hx), fun b o e n hb hx => ?_, I.base.free, fun b o e hx => ?_, I.base.tups, I.base.frzs, I.base.tbls⟩, ⟨m', hn, fun i x v _ e _ => ?_⟩, fun x c e => ?_, I.free, I.freeC, fun p hp => ?_, fun b u e => ?_, I.len⟩
  · obtain ⟨sl, q⟩ := I.base.slot b o e n hb hx
    exact ⟨sl, k b _ (nL b o e) q⟩
  · obtain ⟨o', q⟩ := I.base.there b o e hx
    exact ⟨o', k b _ (nL b o e) q⟩
  · rw [List.getElem?_replicate] at e
    split at e <;> cases e
  · obtain ⟨v, o, ho, hd⟩ := I.cell x c e
    exact ⟨v, o, k c o (I.cne x c e) ho, hd⟩
  · obtain ⟨e1, e2, e3, e4⟩ := I.pin p hp
    exact ⟨k _ _ e3 e1, e2, e3, e4⟩
  · have nb : ∀ c u', H c = some u' -> c ≠ X.env.locals := fun c u' q z => by subst z; rw [I.free] at q; cases q
    refine (I.hok b u e).stay (fun c v hc r => k c v ?_ r) (fun _ q => q) fun _ _ q => q
    rcases hc with rfl | hc
    · exact nb _ _ e
    · exact nb _ _ hc
theorem ps_try {X : Cx} {rx n : Str} {i : Nat} {S : Addr} {body : List Stmt} {b0 : Stmt} {suite : List Stmt} {tb : XK -> TS} {ts : TS} {np hpos pos : Pos} (hex : X.ex = []) (hst : X.stack = X.env :: X.outer) (hfr : X.env.frame = some X.env.locals)
    (hN : X.N.Nodup) (hi : X.N[i]? = some n) (hl : X.env.scope.names.lookup n = some .local) (hg : Gl X rx) (hm : X.mg rx = some (.ref S)) (cS : XCls X.K S)
    (hb : ∀ (xe : Value -> Shared -> Prop) (pn : List (Addr × Obj)) (E1 : XK), Passes (CXR X.prog X.w) (X.tr xe pn) E1 -> PSs (X.tr xe pn) body (tb E1)) (hs : ∀ e, PSs (X.sut e) (b0 :: suite) ts) (hdb : (rx == ("__debug__" : Str)) = false := by decide) :
    PS X (.Try body [.ExceptHandler (some (.Name rx np)) (some n) (b0 :: suite) hpos] [] [] pos) (tTry X.K S i X.N.length tb ts) := by
  intro pins s σ H D I h
  refine wpAny_Try_except ?_
  let xe : Value -> Shared -> Prop := fun e s1 => wpAny (model X.prog X.w) X.A (noteFrame e X.env) (fun _ s2 => wpAny (model X.prog X.w) X.A (setFlight e none) (fun _ s3 =>
    wpAny (model X.prog X.w) X.A (handleBy e X.env [.ExceptHandler (some (.Name rx np)) (some n) (b0 :: suite) hpos]) (SP X pins D) X.xe s3) X.xe s2) X.xe s1
  refine wpAny_mono (hb xe (X.pn ++ pins) _ ?_ [] s σ H D (I.tr xe) h) (fun f s1 q => ?_) fun e s1 q => q
  · intro pins' σ1 H1 s1 e s2 I1 hx
    obtain ⟨a, C, dx, H', B, rfl, hos, hbare, un, hok, fly, c1, c2, hna, C', d', eC, ed, cC, sC, suit⟩ := hx
    cases eC
    cases ed
    have fly : Fly B (X.env :: X.outer) a C dx .none s2.heap := by rw [<- hst]; exact fly
    have frs_eq : frs X.stack = frs (X.env :: X.outer) := by rw [hst]
    show wpAny (model X.prog X.w) X.A (noteFrame (.ref a) X.env) _ _ s2
    have Afr : X.A.frames = some (X.env :: X.outer) := by rw [<- hst]; exact I.ok.frames
    have nof : ∀ b ∈ frs X.stack, ∀ o, s2.heap.get? b = some o -> ∀ vs, o.data ≠ .fields vs := by rw [frs_eq]; exact frames_nofields fly.ff
    have at_ : ∀ h2, Fly B (X.env :: X.outer) a C dx .none h2 -> s2.heap.UpToSlots h2 -> Inv X pins σ1 H' { s2 with heap := h2 } := fun h2 fly2 up =>
      (I1.call' (s' := { s2 with heap := h2 }) (ch := []) hos (un_on un fly.st fly2.st c1 up nof) (hok_on hok fly.st fly2.st c2) hbare fun b z => absurd z (by simp)).untr
    refine wpAny_mono (LX.land_next (Q := fun _ s3 => ∃ h2, s3 = { s2 with heap := h2 } /\ Fly B (X.env :: X.outer) a C dx .none h2 /\ s2.heap.UpToSlots h2) (E := X.xe) Afr hfr fly fun h2 f2 u2 => ⟨h2, rfl, f2, u2⟩) (fun _ s3 z => ?_) fun _ _ z => z
    refine thn z fun _ s4 ⟨h2, e4, fly2, up2⟩ => ?_
    subst e4
    have J2 := at_ h2 fly2 up2
    obtain ⟨oe, vs, T, oT, tsr, ⟨hoe, hcl, hdi, hda, _⟩, _⟩ := fly2.tr
    obtain ⟨nmS, qS, NS, bsS, bmS, hdS, snS, subS, abS, colS, ddS, j0, j1, j2, j3, j5, US, _, hS⟩ := cS.xc
    obtain ⟨cdC, bmC, hcdC, _, _, emC, _, nmC, qC, NC, bsC, hdC, snC, subC, abC, colC, ddC, k0, k1, k2, k3, k5, lkC⟩ := cC.out
    refine wpAny_handleBy_cons (codeAny_handlers_test (ld_glob (X := X.sut a) (J2.sut a) hg hm ?_ hdb)) (by intro q; cases q)
    obtain ⟨hp, g, dd, tk, os⟩ := s2
    refine LX.x_matches US (J2.kIn _ _ lkC) (hS _ J2.kIn) ?_ hoe hcl ?_
    · obtain ⟨cd, e1, e2⟩ := sC
      rw [hcdC] at e1
      cases e1
      rw [emC] at e2
      exact e2
    show codeAny _ _ _ _ _
    refine codeAny_handlers_suite_as (LX.flight_off (s := ⟨h2, g, dd, tk, os⟩) fly2 fun h3 fly3 up3 => ?_)
    have J3 : Inv X pins σ1 H' ⟨h3, g, dd, tk, os⟩ := at_ h3 fly3 (up2.trans up3)
    obtain ⟨oe, vs, T, oT, tsr, ⟨hoe, hcl, hdi, hda, _⟩, _⟩ := fly3.tr
    obtain ⟨oec, oed, oedt, oes⟩ := oe
    cases hcl
    cases hdi
    cases hda
    have notIn : ∀ b o, s1.heap.get? b = some o -> b ≠ a := fun b o q z => by
      subst z
      by_cases hb : b ∈ frs X.stack
      · obtain ⟨ob, qb⟩ : ∃ ob, hp.get? b = some ob := un.there b o q (by simp)
        obtain ⟨oe2, vs2, _, _, _, ⟨z1, _, _, z4, _⟩, _⟩ := fly.tr
        exact nof b hb oe2 z1 vs2 z4
      · obtain ⟨o', eo⟩ := c1 b o q hb
        rw [fly.nw] at eo
        cases eo
    have K3 : Inv X pins (List.replicate X.N.length none) (upd H' a (XOb a C vs (some dx))) ⟨h3, g, dd, tk, os⟩ := by
      refine (blank_weak J3).track hna ?_ ?_ ?_ ?_ (xob_ok hoe)
      · cases q0 : X.s_0.heap.get? a with
        | none => rfl
        | some o =>
          obtain ⟨o1, q1⟩ := I1.base.there a o q0 (by show a ∉ X.ex; rw [hex]; simp)
          exact absurd rfl (notIn a o1 q1)
      · intro z
        obtain ⟨m, ⟨o, _, _, ho, _⟩, _⟩ := I1.loc
        exact notIn _ o ho z.symm
      · intro x c q z
        obtain ⟨v, o, ho, _⟩ := I1.cell x c q
        exact notIn _ o ho z
      · intro p hp' z
        exact notIn _ _ (I1.pin p (List.mem_append_left _ hp')).1 z
    have rdy := suit a vs hna
    refine store_ok (X := X.sut a) (K3.sut a) hN hi (.inl hl) (v := V.ref a) rfl (fun s5 I5 => ?_) (.inr hl)
    refine wpAny_mono (hs a pins s5 _ _ _ I5 rdy) (fun f s6 q => ?_) fun _ _ z => z.elim
    show wpAny (model X.prog X.w) X.A (do bindName X.env n .none; unbindBehindTheSuite X.env n hpos) (fun _ s7 => SP X pins D f s7) X.xe s6
    cases f with
    | next => obtain ⟨_, _, _, z⟩ := q; exact z.elim
    | brk => obtain ⟨_, _, _, z⟩ := q; exact z.elim
    | cont => obtain ⟨_, _, _, z⟩ := q; exact z.elim
    | ret u =>
      obtain ⟨v, σ6, H6, I6, rv, q6⟩ := q
      have I6' : Inv X pins (List.replicate X.N.length none) H6 s6 := blank_weak (I6.unsut I.ok.hd)
      obtain ⟨m, hn, _⟩ := id I6'.loc
      refine wpAny_nameGoes (m := m) hl hn (by rw [I.ok.kind]; rfl) fun h7 m7 hn7 sb7 => ⟨v, List.replicate X.N.length none, H6, ?_, rv, q6⟩
      exact I6'.gone hn7 sb7
  · cases f with
    | next => exact wpAny_execs_nil q.untr
    | ret v => exact q.untr
    | brk => exact q.untr
    | cont => exact q.untr
end L2
end
section
section
set_option Elab.async false
set_option linter.all false
set_option maxRecDepth 100000
set_option maxHeartbeats 2000000
namespace L2
open PySem PySem.Spec PyProof.Rows
open PySem.W (WData Codec OpenSpec Well WellAll ReadsW ReadsAllW)
mutual
inductive Dw (K : PySem.W.Frag) (H : Hp) : V -> WData -> Prop
  | non : Dw K H .non .none
  | bl (b : Bool) : Dw K H (.bl b) (.bool b)
  | int (i : Int) : Dw K H (.int i) (.int i)
  | str (x : Str) : Dw K H (.str x) (.str x)
  | byt (b : Array UInt8) : Dw K H (.byt b) (.bytes b.toList)
  | lst {a : Addr} {xs : List V} {ds : List WData} : SqL K H a xs -> DwAll K H xs ds -> Dw K H (.ref a) (.list ds)
  | tup {a : Addr} {xs : List V} {ds : List WData} : SqT K H a xs -> DwAll K H xs ds -> Dw K H (.ref a) (.tuple ds)
inductive DwAll (K : PySem.W.Frag) (H : Hp) : List V -> List WData -> Prop
  | nil : DwAll K H [] []
  | cons {v : V} {vs : List V} {d : WData} {ds : List WData} : Dw K H v d -> DwAll K H vs ds -> DwAll K H (v :: vs) (d :: ds)
end
theorem dw_ints {K : PySem.W.Frag} {H : Hp} : ∀ ns : List Int, DwAll K H (ns.map V.int) (ns.map WData.int)
  | [] => .nil
  | n :: r => .cons (.int n) (dw_ints r)
theorem ints_dw {K : PySem.W.Frag} {H : Hp} : ∀ (ns : List Int) (xs : List V), DwAll K H xs (ns.map WData.int) -> xs = ns.map V.int
  | [], xs, h => by
    cases h
    rfl
  | n :: r, xs, h => by
    cases h with
    | cons h1 h2 =>
      cases h1
      rw [ints_dw r _ h2] <;> rfl
section
variable {P : Program} {w : World} {K : PySem.W.Frag} {H : Hp} {h : Heap} {R : PySem.W.WRecords} {cl : Str -> Option Addr}
theorem sqL_at {a : Addr} {xs : List V} (hok : HOk P w H h) (KX : K.In h) (q : SqL K H a xs) : ∃ (its : List Value) (o : Obj) (n : Nat), Vals xs its /\ h.get? a = some o /\ o.cls = .type "list" /\ o.data = .seq its.toArray n := by
  rcases q with q | ⟨o, its, n, e, hc, _, hd, _, hv⟩
  · obtain ⟨_, its, n, hv, e⟩ := (show ObjOk P w H h a (.lst xs) from q.ok hok)
    exact ⟨its, _, n, hv, e, rfl, rfl⟩
  · exact ⟨its.toList, o, n, hv, KX _ _ e, hc, by simp [hd]⟩
theorem sqT_at {a : Addr} {xs : List V} (hok : HOk P w H h) (KX : K.In h) (q : SqT K H a xs) : ∃ (its : List Value) (o : Obj) (n : Nat), Vals xs its /\ h.get? a = some o /\ o.cls = .type "tuple" /\ o.data = .seq its.toArray n := by
  rcases q with q | ⟨o, its, n, e, hc, hd, _, hv⟩
  · obtain ⟨_, its, hv, o, e, hc, n, hd⟩ := (show ObjOk P w H h a (.tup xs) from q.ok hok)
    exact ⟨its, o, n, hv, e, hc, hd⟩
  · exact ⟨its.toList, o, n, hv, KX _ _ e, hc, by simp [hd]⟩
mutual
theorem Dw.reads (hok : HOk P w H h) (KX : K.In h) : ∀ (d : WData) (v : V) (u : Value), Dw K H v d -> RelV v u -> ∃ as, ReadsW R cl h u d as
  | .none, _, _, x, r => by
    cases x
    cases r
    exact ⟨_, ReadsW.none⟩
  | .bool b, _, _, x, r => by
    cases x
    cases r
    exact ⟨_, ReadsW.bool b⟩
  | .int i, _, _, x, r => by
    cases x
    obtain ⟨t, rfl⟩ := r
    exact ⟨_, ReadsW.int i t⟩
  | .str s, _, _, x, r => by
    cases x
    obtain ⟨t, rfl⟩ := r
    exact ⟨_, ReadsW.str s t⟩
  | .bytes b, _, _, x, r => by
    cases x
    obtain ⟨t, rfl⟩ := r
    exact ⟨_, ReadsW.bytes _ t⟩
  | .list ds, _, _, x, r => by
    cases x with
    | lst hs ha =>
      cases r
      obtain ⟨its, o, n, rv, ho, hc, hd⟩ := sqL_at hok KX hs
      obtain ⟨as, hr⟩ := Dw.readsAll hok KX ds _ its ha rv
      exact ⟨_, ReadsW.list ho hc hd hr⟩
  | .tuple ds, _, _, x, r => by
    cases x with
    | tup hs ha =>
      cases r
      obtain ⟨its, o, n, rv, ho, hc, hd⟩ := sqT_at hok KX hs
      obtain ⟨as, hr⟩ := Dw.readsAll hok KX ds _ its ha rv
      exact ⟨_, ReadsW.tuple ho hc hd hr⟩
  | .float _, _, _, x, _ => by cases x
  | .dict _, _, _, x, _ => by cases x
  | .bytearray _, _, _, x, _ => by cases x
  | .set _, _, _, x, _ => by cases x
  | .frozenset _, _, _, x, _ => by cases x
  | .obj _ _, _, _, x, _ => by cases x
theorem Dw.readsAll (hok : HOk P w H h) (KX : K.In h) : ∀ (ds : List WData) (vs : List V) (us : List Value), DwAll K H vs ds -> Vals vs us -> ∃ as, ReadsAllW R cl h us ds as
  | [], _, _, x, r => by
    cases x
    cases r
    exact ⟨_, ReadsAllW.nil⟩
  | d :: ds, _, _, x, r => by
    cases x with
    | cons h1 h2 =>
      cases r with
      | cons r1 r2 =>
        obtain ⟨as, q1⟩ := Dw.reads hok KX d _ _ h1 r1
        obtain ⟨bs, q2⟩ := Dw.readsAll hok KX ds _ _ h2 r2
        exact ⟨_, ReadsAllW.cons q1 q2⟩
end
end
mutual
def plW : WData -> Bool
  | .none => true
  | .bool _ => true
  | .int _ => true
  | .str _ => true
  | .bytes _ => true
  | .list xs => plWs xs
  | .tuple xs => plWs xs
  | _ => false
def plWs : List WData -> Bool
  | [] => true
  | x :: r => plW x && plWs r
end
theorem plWs_map {α : Type} {f : α -> WData} (h : ∀ a, plW (f a) = true) : ∀ l : List α, plWs (l.map f) = true
  | [] => rfl
  | x :: r => by
    show (plW (f x) && plWs (r.map f)) = true
    rw [h x, plWs_map h r] <;> rfl
theorem pl_enc : ∀ (c : Codec) (a : c.denote), plW (c.enc a) = true
  | .unit, _ => rfl
  | .bool, _ => rfl
  | .int _ _, _ => rfl
  | .nat _ _, _ => rfl
  | .u8, _ => rfl
  | .bytes _ _, _ => rfl
  | .text _ _ _ _, _ => rfl
  | .list _ _ c, a => plWs_map (fun x => pl_enc c x) a
  | .pair c d, a => by
    show (plW (c.enc a.1) && (plW (d.enc a.2) && true)) = true
    rw [pl_enc c a.1, pl_enc d a.2] <;> rfl
  | .triple c d e, a => by
    show (plW (c.enc a.1) && (plW (d.enc a.2.1) && (plW (e.enc a.2.2) && true))) = true
    rw [pl_enc c a.1, pl_enc d a.2.1, pl_enc e a.2.2] <;> rfl
  | .option c, none => rfl
  | .option c, some x => pl_enc c x
theorem pl_encAll : ∀ (cs : List Codec) (a : Codec.denoteAll cs), plWs (Codec.encAll cs a) = true
  | [], _ => rfl
  | c :: cs, a => by
    show (plW (c.enc a.1) && plWs (Codec.encAll cs a.2)) = true
    rw [pl_enc c a.1, pl_encAll cs a.2] <;> rfl
theorem weight_mem : ∀ {xs : List WData} {d : WData}, d ∈ xs -> d.weight <= WData.weightAll xs
  | [], d, h => absurd h (by simp)
  | x :: r, d, h => by
    show d.weight <= x.weight + 1 + WData.weightAll r
    rcases List.mem_cons.mp h with e | m
    · rw [e]
      omega
    · have z := weight_mem m
      omega
def toV : Value -> V
  | .none => .non
  | .bool b => .bl b
  | .int i _ => .int i
  | .str x _ => .str x
  | .bytes b _ => .byt b
  | .ref a => .ref a
  | _ => .non
def OkU (A : List Addr) : Value -> Prop
  | .none => True
  | .bool _ => True
  | .int _ _ => True
  | .str _ _ => True
  | .bytes _ _ => True
  | .ref a => a ∈ A
  | _ => False
theorem OkU.mono {A B : List Addr} (h : ∀ a ∈ A, a ∈ B) : ∀ {u : Value}, OkU A u -> OkU B u := fun {u} x => by
  cases u with
  | ref a => exact h a x
  | none => trivial
  | bool b => trivial
  | int i t => trivial
  | str s t => trivial
  | bytes b t => trivial
  | _ => exact False.elim x
theorem relV_toV {A : List Addr} {u : Value} (x : OkU A u) : RelV (toV u) u := by
  cases u with
  | ref a => rfl
  | none => rfl
  | bool b => rfl
  | int i t => exact ⟨t, rfl⟩
  | str s t => exact ⟨t, rfl⟩
  | bytes b t => exact ⟨t, rfl⟩
  | _ => exact False.elim x
theorem vals_toV {A : List Addr} : ∀ {vs : List Value}, (∀ u ∈ vs, OkU A u) -> Vals (vs.map toV) vs
  | [], _ => .nil
  | u :: r, h => .cons (relV_toV (h u (List.mem_cons_self ..))) (vals_toV fun x hx => h x (List.mem_cons_of_mem _ hx))
def ArgOb (h : Heap) (A : List Addr) (a : Addr) : Prop := ∃ vs : List Value, vs.length <= sizeLine /\ (∀ u ∈ vs, OkU A u) /\
  (h.get? a = some { cls := .type "list", data := .seq vs.toArray } \/ h.get? a = some { cls := .type "tuple", data := .seq vs.toArray })
theorem ArgOb.mono {h : Heap} {A B : List Addr} {a : Addr} (k : ∀ a ∈ A, a ∈ B) (x : ArgOb h A a) : ArgOb h B a := by
  obtain ⟨vs, h1, h2, h3⟩ := x
  exact ⟨vs, h1, fun u hu => (h2 u hu).mono k, h3⟩
theorem wellAll_len {P : Params} {h : Heap} : ∀ {vs : List Value} {ds : List WData}, WellAll P h vs ds -> vs.length = ds.length
  | _, _, .nil => rfl
  | _, _, .cons _ b => by
    show _ + 1 = _ + 1
    rw [wellAll_len b]
theorem well_list {P : Params} {h : Heap} {v : Value} {ds : List WData} (x : Well P h v (.list ds)) : ∃ (a : Addr) (vs : List Value), v = .ref a /\ h.get? a = some { cls := .type "list", data := .seq vs.toArray } /\ WellAll P h vs ds := by
  cases x with
  | list ho hall => exact ⟨_, _, rfl, ho, hall⟩
theorem well_tuple {P : Params} {h : Heap} {v : Value} {ds : List WData} (x : Well P h v (.tuple ds)) : ∃ (a : Addr) (vs : List Value), v = .ref a /\ h.get? a = some { cls := .type "tuple", data := .seq vs.toArray } /\ WellAll P h vs ds := by
  cases x with
  | tuple ho hall => exact ⟨_, _, rfl, ho, hall⟩
theorem well_cons {P : Params} {h : Heap} {us : List Value} {d : WData} {ds : List WData} (x : WellAll P h us (d :: ds)) : ∃ (v : Value) (vs : List Value), us = v :: vs /\ Well P h v d /\ WellAll P h vs ds := by
  cases x with
  | cons a b => exact ⟨_, _, rfl, a, b⟩
theorem line_of {n : Nat} (h : n <= 1048576) : n <= sizeLine := Nat.le_trans h (by decide)
section
variable {P : Params} {h : Heap}
mutual
theorem area_one : ∀ (d : WData) (v : Value), Well P h v d -> plW d = true -> d.weight <= 1048576 -> ∃ A : List Addr, OkU A v /\ ∀ a ∈ A, ArgOb h A a
  | .none, _, x, _, _ => by
    cases x
    exact ⟨[], trivial, fun a m => absurd m (by simp)⟩
  | .bool b, _, x, _, _ => by
    cases x
    exact ⟨[], trivial, fun a m => absurd m (by simp)⟩
  | .int i, _, x, _, _ => by
    cases x
    exact ⟨[], trivial, fun a m => absurd m (by simp)⟩
  | .str s, _, x, _, _ => by
    cases x
    exact ⟨[], trivial, fun a m => absurd m (by simp)⟩
  | .bytes b, _, x, _, _ => by
    cases x
    exact ⟨[], trivial, fun a m => absurd m (by simp)⟩
  | .list ds, _, x, p, z => by
    obtain ⟨a, vs, rfl, ho, hall⟩ := well_list x
    have z2 : WData.weightAll ds <= 1048576 := z
    obtain ⟨A, h1, h2⟩ := area_all ds _ hall p fun d hd => Nat.le_trans (weight_mem hd) z2
    have k : ∀ b ∈ A, b ∈ a :: A := fun b hb => List.mem_cons_of_mem _ hb
    refine ⟨a :: A, List.mem_cons_self .., fun b hb => ?_⟩
    rcases List.mem_cons.mp hb with e | m
    · rw [e]
      exact ⟨vs, line_of (by rw [wellAll_len hall]; exact Nat.le_trans (PySem.W.length_le_weightAllW ds) z2), fun u hu => (h1 u hu).mono k, .inl ho⟩
    · exact (h2 b m).mono k
  | .tuple ds, _, x, p, z => by
    obtain ⟨a, vs, rfl, ho, hall⟩ := well_tuple x
    have z2 : WData.weightAll ds <= 1048576 := z
    obtain ⟨A, h1, h2⟩ := area_all ds _ hall p fun d hd => Nat.le_trans (weight_mem hd) z2
    have k : ∀ b ∈ A, b ∈ a :: A := fun b hb => List.mem_cons_of_mem _ hb
    refine ⟨a :: A, List.mem_cons_self .., fun b hb => ?_⟩
    rcases List.mem_cons.mp hb with e | m
    · rw [e]
      exact ⟨vs, line_of (by rw [wellAll_len hall]; exact Nat.le_trans (PySem.W.length_le_weightAllW ds) z2), fun u hu => (h1 u hu).mono k, .inr ho⟩
    · exact (h2 b m).mono k
  | .float _, _, _, p, _ => Bool.noConfusion (show false = true from p)
  | .dict _, _, _, p, _ => Bool.noConfusion (show false = true from p)
  | .bytearray _, _, _, p, _ => Bool.noConfusion (show false = true from p)
  | .set _, _, _, p, _ => Bool.noConfusion (show false = true from p)
  | .frozenset _, _, _, p, _ => Bool.noConfusion (show false = true from p)
  | .obj _ _, _, _, p, _ => Bool.noConfusion (show false = true from p)
theorem area_all : ∀ (ds : List WData) (vs : List Value), WellAll P h vs ds -> plWs ds = true -> (∀ d ∈ ds, d.weight <= 1048576) -> ∃ A : List Addr, (∀ u ∈ vs, OkU A u) /\ ∀ a ∈ A, ArgOb h A a
  | [], _, x, _, _ => by
    cases x
    exact ⟨[], fun u m => absurd m (by simp), fun a m => absurd m (by simp)⟩
  | d :: ds, _, x, p, z => by
    obtain ⟨v, vs, rfl, x1, x2⟩ := well_cons x
    have q : plW d = true /\ plWs ds = true := Bool.and_eq_true_iff.mp p
    obtain ⟨A, a1, a2⟩ := area_one d v x1 q.1 (z d (List.mem_cons_self ..))
    obtain ⟨B, b1, b2⟩ := area_all ds vs x2 q.2 fun e he => z e (List.mem_cons_of_mem _ he)
    have kA : ∀ b ∈ A, b ∈ A ++ B := fun b hb => List.mem_append.mpr (.inl hb)
    have kB : ∀ b ∈ B, b ∈ A ++ B := fun b hb => List.mem_append.mpr (.inr hb)
    refine ⟨A ++ B, fun u hu => ?_, fun b hb => ?_⟩
    · rcases List.mem_cons.mp hu with e | m
      · rw [e]
        exact a1.mono kA
      · exact (b1 u m).mono kB
    · rcases List.mem_append.mp hb with m | m
      · exact (a2 b m).mono kA
      · exact (b2 b m).mono kB
end
end
def hoOf (o : Obj) : Option HO := match o.data with
  | .seq vs _ => if (o.cls == Value.type "list") = true then some (.frz o (.lst (vs.toList.map toV))) else some (.frz o (.tup (vs.toList.map toV)))
  | _ => none
def argH (K : PySem.W.Frag) (h : Heap) (A : List Addr) : Hp := fun b => if b ∈ A then (if (K.lookup b).isNone = true then (h.get? b).bind hoOf else none) else none
def OnlyF (H : Hp) : Prop := ∀ b, H b = none \/ ∃ o u, H b = some (.frz o u)
theorem hoOf_lst (vs : List Value) : hoOf { cls := .type "list", data := .seq vs.toArray } = some (.frz { cls := .type "list", data := .seq vs.toArray } (.lst (vs.map toV))) := by
  show (if (Value.type "list" == Value.type "list") = true then some (HO.frz { cls := .type "list", data := .seq vs.toArray } (.lst (vs.toArray.toList.map toV))) else some (HO.frz { cls := .type "list", data := .seq vs.toArray } (.tup (vs.toArray.toList.map toV)))) = _
  rw [if_pos (beq_self_eq_true _)]
theorem hoOf_tup (vs : List Value) : hoOf { cls := .type "tuple", data := .seq vs.toArray } = some (.frz { cls := .type "tuple", data := .seq vs.toArray } (.tup (vs.map toV))) := by
  show (if (Value.type "tuple" == Value.type "list") = true then some (HO.frz { cls := .type "tuple", data := .seq vs.toArray } (.lst (vs.toArray.toList.map toV))) else some (HO.frz { cls := .type "tuple", data := .seq vs.toArray } (.tup (vs.toArray.toList.map toV)))) = _
  rw [if_neg (by decide)]
section
variable {P : Program} {w : World} {K : PySem.W.Frag} {h : Heap} {A : List Addr}
theorem argH_at {b : Addr} {o : Obj} (hb : b ∈ A) (hk : K.lookup b = none) (e : h.get? b = some o) : argH K h A b = hoOf o := by
  unfold argH
  rw [if_pos hb, hk, if_pos (show (none : Option Obj).isNone = true from rfl), e] <;> rfl
theorem of_argH {b : Addr} {u : HO} (q : argH K h A b = some u) : b ∈ A /\ K.lookup b = none := by
  unfold argH at q
  by_cases hb : b ∈ A
  · rw [if_pos hb] at q
    cases hk : K.lookup b with
    | none => exact ⟨hb, rfl⟩
    | some o =>
      rw [hk, if_neg (by simp)] at q
      cases q
  · rw [if_neg hb] at q
    cases q
theorem argH_is (ar : ∀ a ∈ A, ArgOb h A a) {b : Addr} {u : HO} (q : argH K h A b = some u) : K.lookup b = none /\ ∃ vs : List Value, vs.length <= sizeLine /\ (∀ u ∈ vs, OkU A u) /\
    ((h.get? b = some { cls := .type "list", data := .seq vs.toArray } /\ u = .frz { cls := .type "list", data := .seq vs.toArray } (.lst (vs.map toV))) \/
     (h.get? b = some { cls := .type "tuple", data := .seq vs.toArray } /\ u = .frz { cls := .type "tuple", data := .seq vs.toArray } (.tup (vs.map toV)))) := by
  obtain ⟨hb, hk⟩ := of_argH q
  obtain ⟨vs, h1, h2, h3⟩ := ar b hb
  refine ⟨hk, vs, h1, h2, ?_⟩
  rcases h3 with e | e
  · rw [argH_at hb hk e, hoOf_lst] at q
    exact .inl ⟨e, (Option.some.inj q).symm⟩
  · rw [argH_at hb hk e, hoOf_tup] at q
    exact .inr ⟨e, (Option.some.inj q).symm⟩
theorem argH_only (ar : ∀ a ∈ A, ArgOb h A a) : OnlyF (argH K h A) := fun b => by
  cases q : argH K h A b with
  | none => exact .inl rfl
  | some u =>
    obtain ⟨_, vs, _, _, ⟨_, e⟩ | ⟨_, e⟩⟩ := argH_is ar q
    · exact .inr ⟨_, _, by rw [e]⟩
    · exact .inr ⟨_, _, by rw [e]⟩
theorem argH_ok (ar : ∀ a ∈ A, ArgOb h A a) : HOk P w (argH K h A) h := fun b u q => by
  obtain ⟨_, vs, h1, h2, ⟨e, rfl⟩ | ⟨e, rfl⟩⟩ := argH_is ar q
  · exact ⟨e, by rw [List.length_map]; exact h1, vs, _, vals_toV h2, e⟩
  · exact ⟨e, by rw [List.length_map]; exact h1, vs, vals_toV h2, _, e, rfl, _, rfl⟩
theorem seq_inj {c c' : Value} {vs us : List Value} (e : (some { cls := c, data := .seq vs.toArray } : Option Obj) = some { cls := c', data := .seq us.toArray }) : c = c' /\ vs = us := by
  have e1 := Option.some.inj e
  have e2 : c = c' := congrArg Obj.cls e1
  have e3 : Data.seq vs.toArray = Data.seq us.toArray := congrArg Obj.data e1
  injection e3 with e4
  refine ⟨e2, ?_⟩
  have e5 := congrArg Array.toList e4
  simpa using e5
theorem argL (KX : K.In h) (ar : ∀ a ∈ A, ArgOb h A a) {a : Addr} {vs : List Value} (ha : a ∈ A) (e : h.get? a = some { cls := .type "list", data := .seq vs.toArray }) : (∀ u ∈ vs, OkU A u) /\ SqL K (argH K h A) a (vs.map toV) := by
  obtain ⟨us, h1, h2, h3⟩ := ar a ha
  have hu : us = vs := by
    rcases h3 with q | q
    · rw [e] at q
      exact (seq_inj q).2.symm
    · rw [e] at q
      exact absurd (Value.type.inj (seq_inj q).1) (by decide)
  subst hu
  refine ⟨h2, ?_⟩
  cases hk : K.lookup a with
  | none => exact .inl (.inr ⟨_, by rw [argH_at ha hk e, hoOf_lst]⟩)
  | some o =>
    have e2 := KX a o hk
    rw [e] at e2
    obtain rfl := Option.some.inj e2
    exact .inr ⟨_, us.toArray, _, hk, rfl, rfl, rfl, by rw [List.size_toArray]; exact h1, by simpa using vals_toV h2⟩
theorem argT (KX : K.In h) (ar : ∀ a ∈ A, ArgOb h A a) {a : Addr} {vs : List Value} (ha : a ∈ A) (e : h.get? a = some { cls := .type "tuple", data := .seq vs.toArray }) : (∀ u ∈ vs, OkU A u) /\ SqT K (argH K h A) a (vs.map toV) := by
  obtain ⟨us, h1, h2, h3⟩ := ar a ha
  have hu : us = vs := by
    rcases h3 with q | q
    · rw [e] at q
      exact absurd (Value.type.inj (seq_inj q).1) (by decide)
    · rw [e] at q
      exact (seq_inj q).2.symm
  subst hu
  refine ⟨h2, ?_⟩
  cases hk : K.lookup a with
  | none => exact .inl (.inr ⟨_, by rw [argH_at ha hk e, hoOf_tup]⟩)
  | some o =>
    have e2 := KX a o hk
    rw [e] at e2
    obtain rfl := Option.some.inj e2
    exact .inr ⟨_, us.toArray, _, hk, rfl, rfl, by rw [List.size_toArray]; exact h1, by simpa using vals_toV h2⟩
mutual
theorem dw_one {Pm : Params} (KX : K.In h) (ar : ∀ a ∈ A, ArgOb h A a) : ∀ (d : WData) (v : Value), Well Pm h v d -> plW d = true -> OkU A v -> Dw K (argH K h A) (toV v) d
  | .none, _, x, _, _ => by
    cases x
    exact .non
  | .bool b, _, x, _, _ => by
    cases x
    exact .bl b
  | .int i, _, x, _, _ => by
    cases x
    exact .int i
  | .str s, _, x, _, _ => by
    cases x
    exact .str s
  | .bytes b, _, x, _, _ => by
    cases x
    have z := Dw.byt (K := K) (H := argH K h A) b.toArray
    exact z
  | .list ds, _, x, p, hu => by
    obtain ⟨a, vs, rfl, ho, hall⟩ := well_list x
    obtain ⟨h2, hs⟩ := argL KX ar hu ho
    exact .lst hs (dw_all KX ar ds _ hall p h2)
  | .tuple ds, _, x, p, hu => by
    obtain ⟨a, vs, rfl, ho, hall⟩ := well_tuple x
    obtain ⟨h2, hs⟩ := argT KX ar hu ho
    exact .tup hs (dw_all KX ar ds _ hall p h2)
  | .float _, _, _, p, _ => Bool.noConfusion (show false = true from p)
  | .dict _, _, _, p, _ => Bool.noConfusion (show false = true from p)
  | .bytearray _, _, _, p, _ => Bool.noConfusion (show false = true from p)
  | .set _, _, _, p, _ => Bool.noConfusion (show false = true from p)
  | .frozenset _, _, _, p, _ => Bool.noConfusion (show false = true from p)
  | .obj _ _, _, _, p, _ => Bool.noConfusion (show false = true from p)
theorem dw_all {Pm : Params} (KX : K.In h) (ar : ∀ a ∈ A, ArgOb h A a) : ∀ (ds : List WData) (vs : List Value), WellAll Pm h vs ds -> plWs ds = true -> (∀ u ∈ vs, OkU A u) -> DwAll K (argH K h A) (vs.map toV) ds
  | [], _, x, _, _ => by
    cases x
    exact .nil
  | d :: ds, _, x, p, hu => by
    obtain ⟨v, vs, rfl, x1, x2⟩ := well_cons x
    have q : plW d = true /\ plWs ds = true := Bool.and_eq_true_iff.mp p
    exact .cons (dw_one KX ar d v x1 q.1 (hu _ (List.mem_cons_self ..))) (dw_all KX ar ds vs x2 q.2 fun u m => hu u (List.mem_cons_of_mem _ m))
end
end
theorem spec_call {P : Program} {w : World} {K : PySem.W.Frag} {mg mb : Str -> Option Value} {CX : CXT} {k : Nat} {fa : Addr} {fd : FuncData} {ps : List Str} {sp : Sp} {s₁ : Shared} {vals : List Value} {ds : List WData} {R : PySem.W.WRecords} {cl : Str -> Option Addr} {d0 : WData}
    (KX : K.In s₁.heap) (hns : s₁.heap.Ns mainGlobals mg) (hb : s₁.heap.Ns builtinsNs mb) (hbb : ∀ x : Str, x ≠ "__name__" -> mb x = bootBuiltins x) (hlim : s₁.heap.NoLimit) (hg : s₁.gens = #[])
    (hwl : WellAll w.params s₁.heap vals ds) (hpl : plWs ds = true) (hwt : ∀ d ∈ ds, d.weight <= 1048576) (hr : Room k callerA)
    (F : ∀ base : Heap, K.In base -> base.Ns mainGlobals mg -> FnOk P w K mg base CX k fa fd ps sp) (hbind : ∀ (s : Shared) (us : List Value), us.length = ps.length -> BindsTo s fd ⟨us, []⟩ (ps.zip us)) (hlen : ds.length = ps.length)
    (hsp : ∀ (H : Hp) (xs : List V), OnlyF H -> DwAll K H xs ds -> sp xs H (fun v H' => Dw K H' v d0) fun _ _ _ => False)
    (hCX : ∀ H e s', CX [] H s₁ (fun _ _ _ => False) e s' -> False) :
    codeAny (model P w) callerA (.call (.ref fa) ⟨vals, []⟩) (fun r s' => ∃ u as, r = .ok (.ret u) /\ ReadsW R cl s'.heap u d0 as /\ OldK s₁.heap s'.heap /\ s'.os = s₁.os /\ AllBare s'.gens) s₁ := by
  obtain ⟨A, ho, ar⟩ := area_all ds vals hwl hpl hwt
  have hO : OnlyF (argH K s₁.heap A) := argH_only ar
  have hok : HOk P w (argH K s₁.heap A) s₁.heap := argH_ok ar
  have hS := dw_all KX ar ds vals hwl hpl ho
  have hV := vals_toV ho
  have hK : ∀ b u, argH K s₁.heap A b = some u -> K.lookup b = none := fun b u q => (argH_is ar q).1
  have noA : ∀ {b : Addr} {o : Obj} {es : Array DictEntry} {ep : Nat}, s₁.heap.get? b = some o -> o.data = .dict es ep -> argH K s₁.heap A b = none := fun {b o es ep} e d => by
    cases q : argH K s₁.heap A b with
    | none => rfl
    | some u =>
      obtain ⟨_, vs, _, _, ⟨e2, _⟩ | ⟨e2, _⟩⟩ := argH_is ar q
      · rw [e2] at e
        cases e
        have d' : Data.seq vs.toArray _ = Data.dict es ep := d
        cases d'
      · rw [e2] at e
        cases e
        have d' : Data.seq vs.toArray _ = Data.dict es ep := d
        cases d'
  generalize argH K s₁.heap A = H at hO hok hS hK noA
  have base_of : ∀ {b : Addr} {o : Obj}, s₁.heap.get? b = some o -> H b = none -> (hidT s₁.heap H).get? b = some o := fun e n => hidT_get e n
  have nsK : ∀ {b : Addr} {m : Str -> Option Value}, s₁.heap.Ns b m -> (hidT s₁.heap H).Ns b m := fun {b m} ⟨o, es, ep, e, d, r⟩ => ⟨o, es, ep, base_of e (noA e d), d, r⟩
  have nK : ∀ b o, K.lookup b = some o -> H b = none := fun b o e => by
    cases q : H b with
    | none => rfl
    | some u =>
      rw [hK b u q] at e
      cases e
  have hKb : K.In (hidT s₁.heap H) := fun b o e => base_of (KX b o e) (nK b o e)
  have hM : Mod K mg (hidT s₁.heap H) := ⟨hKb, nsK hns, ⟨mb, nsK hb, hbb⟩, let ⟨mc, h1, h2⟩ := hlim; ⟨mc, nsK h1, h2⟩⟩
  have e0 : Env0 P w K mg (hidT s₁.heap H) callerA [] s₁ H := ⟨rfl, hM, fun b o e => of_hidT e, Nat.le_of_eq (hidT_size _ _), trivial, fun b hb => absurd (show b ∈ ([] : List Addr) from hb) (by simp), hok, .of_eq hg⟩
  have hl : vals.length = ps.length := by rw [wellAll_len hwl]; exact hlen
  refine codeAny_mono ((F _ hKb (nsK hns)).run callerA [] s₁ H ⟨vals, []⟩ vals (vals.map toV) _ _ hr e0 (hbind s₁ vals hl) hV (hsp H _ hO hS)) fun r s' x => ?_
  cases r with
  | error e => exact (hCX H e s' x).elim
  | ok fl =>
    cases fl with
    | next => exact False.elim x
    | brk => exact False.elim x
    | cont => exact False.elim x
    | ret u =>
      obtain ⟨v, H', os, bare, un, hok', r', q⟩ := x
      have kept : ∀ b o, s₁.heap.get? b = some o -> s'.heap.get? b = some o := fun b o e => by
        cases q2 : H b with
        | none => exact un.keep b o e q2 (by intro z; exact absurd (show b ∈ ([] : List Addr) from z) (by simp)) (by simp)
        | some u2 =>
          rcases hO b with z | ⟨ob, u3, z⟩
          · rw [q2] at z
            cases z
          · have z2 := un.frzs b ob _ z
            obtain ⟨e1, _⟩ := hok b _ z
            obtain ⟨e2, _⟩ := hok' b _ z2
            rw [e] at e1
            cases e1
            exact e2
      have KX' : K.In s'.heap := fun b o e => kept b o (KX b o e)
      obtain ⟨as, hrd⟩ := Dw.reads (R := R) (cl := cl) hok' KX' d0 v u q r'
      exact ⟨u, as, rfl, hrd, OldK.of_keep kept, os, bare⟩
theorem layable_weight {ds : List WData} (h : WData.layableAll ds = true) : ∀ d ∈ ds, d.weight <= 1048576 := fun d hd =>
  (PySem.W.layableW_iff.mp (List.all_eq_true.mp h d hd)).2.2
theorem encAll_len : ∀ (cs : List Codec) (a : Codec.denoteAll cs), (Codec.encAll cs a).length = cs.length
  | [], _ => rfl
  | c :: cs, a => by
    show (Codec.encAll cs a.2).length + 1 = cs.length + 1
    rw [encAll_len cs a.2]
theorem walk_spec {r : OpenSpec} {k : Nat} {q : Program} {loose : List Str} {XP : (Str -> Option Value) -> Heap -> Prop} {YP : World -> Heap -> Prop} {d : DefRec} {K : Params -> PySem.W.Frag} {CX : World -> CXT} {ps : List Str} {sp : World -> Sp}
    (hwell : r.wellSaid = true) (hdf : d.params.defaults = []) (hlen : r.args.length = ps.length) (hr : Room k callerA)
    (hY : ∀ (w : World) (h : Heap), YP w h -> (K w.params).In h)
    (F : ∀ (w : World) (mg : Str -> Option Value) (fa : Addr) (h : Heap), YP w h -> (K w.params).In h -> h.Ns mainGlobals mg -> mg d.name = some (.ref fa) ->
      ∃ fd : FuncData, (∀ (s : Shared) (us : List Value), us.length = ps.length -> BindsTo s fd ⟨us, []⟩ (ps.zip us)) /\
        ∀ base : Heap, (K w.params).In base -> base.Ns mainGlobals mg -> FnOk r.prog w (K w.params) mg base (CX w) k fa fd ps (sp w))
    (hsp : ∀ (w : World) (H : Hp) (xs : List V) (a : Codec.denoteAll r.args), OnlyF H -> Codec.withinAll r.args a = true -> Codec.app r.args r.asked a = true -> DwAll (K w.params) H xs (Codec.encAll r.args a) ->
      sp w xs H (fun v H' => Dw (K w.params) H' v (r.ret.enc (Codec.app r.args r.f a))) fun _ _ _ => False)
    (hCX : ∀ (w : World) (H : Hp) (s : Shared) (e : Value) (s' : Shared), CX w [] H s (fun _ _ _ => False) e s' -> False) :
    PySem.W.WalkOS q loose XP YP r d [] (fun f vs => PySem.call f vs) := by
  intro w s_0 s₁ mg mb G Y fa o pm cd doc dV kV ho hd hcd hD hmg hg args vals as hpre hlay hrd hwl hlo
  obtain ⟨a, e1, e2⟩ := PySem.W.os_pre_some hpre
  obtain ⟨e3, hwi⟩ := Codec.encAll_of_decAll r.args args a e1
  subst e3
  have KX := hY w _ Y
  obtain ⟨fd, hb, hF⟩ := F w mg fa _ Y KX G.T.g hmg
  refine PySem.W.enter_call (codeAny_mono (spec_call (R := []) (cl := classAt s_0.heap) (d0 := r.ret.enc (Codec.app r.args r.f a)) KX G.T.g G.T.b G.T.builtins G.T.nolimit hg hwl (pl_encAll _ _) (layable_weight hlay) hr hF hb (by rw [encAll_len]; exact hlen)
    (fun H xs hO hS => hsp w H xs a hO hwi e2 hS) fun H e s' => hCX w H s₁ e s') fun r' s' hq => ?_)
  obtain ⟨u, as', rfl, h1, h2, h3, h4⟩ := hq
  exact ⟨.inl ⟨u, _, as', rfl, fun _ => rfl, h1, (OpenSpec.post_iff hwell hwi _ _).mpr rfl, fun z => Bool.noConfusion (show false = true from z)⟩, h2, h3, h4⟩
theorem walk_specK {r : OpenSpec} {k : Nat} {q : Program} {loose : List Str} {XP : (Str -> Option Value) -> Heap -> Prop} {YP : World -> Heap -> Prop} {d : DefRec} {K : Params -> PySem.W.Frag} {CX : CXT} {ps : List Str} {sp : PySem.W.Frag -> Sp}
    (hwell : r.wellSaid = true) (hdf : d.params.defaults = []) (hlen : r.args.length = ps.length) (hr : Room k callerA)
    (hY : ∀ (w : World) (h : Heap), YP w h -> (K w.params).In h)
    (F : ∀ (w : World) (mg : Str -> Option Value) (fa : Addr) (h : Heap), YP w h -> (K w.params).In h -> h.Ns mainGlobals mg -> mg d.name = some (.ref fa) ->
      ∃ fd : FuncData, (∀ (s : Shared) (us : List Value), us.length = ps.length -> BindsTo s fd ⟨us, []⟩ (ps.zip us)) /\
        ∀ base : Heap, (K w.params).In base -> base.Ns mainGlobals mg -> FnOk r.prog w (K w.params) mg base CX k fa fd ps (sp (K w.params)))
    (hsp : ∀ (K : PySem.W.Frag) (H : Hp) (xs : List V) (a : Codec.denoteAll r.args), OnlyF H -> Codec.withinAll r.args a = true -> Codec.app r.args r.asked a = true -> DwAll K H xs (Codec.encAll r.args a) ->
      sp K xs H (fun v H' => Dw K H' v (r.ret.enc (Codec.app r.args r.f a))) fun _ _ _ => False)
    (hCX : ∀ (H : Hp) (s : Shared) (e : Value) (s' : Shared), CX [] H s (fun _ _ _ => False) e s' -> False) :
    PySem.W.WalkOS q loose XP YP r d [] (fun f vs => PySem.call f vs) :=
  walk_spec (K := K) (CX := fun _ => CX) (sp := fun w => sp (K w.params)) hwell hdf hlen hr hY F (fun w H xs a h1 h2 h3 h4 => hsp (K w.params) H xs a h1 h2 h3 h4) fun _ H s e s' => hCX H s e s'
end L2
end
end
section
set_option autoImplicit false
namespace RM
open Vastoa
def kd : Tok -> Tok
  | .name _ => .name []
  | .num _ => .num []
  | .piece _ => .piece []
  | t => t
def held : Tok -> Text
  | .name x => x
  | .num x => x
  | .piece x => x
  | .word x => x
  | _ => []
inductive Part where
  | EXPR | FORM | FUNCTION | FIELDS | PARAMS | GIVEN | MPARAMS | BINDS | BOUND | OR | MOR | AND | MAND | NOT | CMP | MCMP | UPD | MUPD | JOIN | MJOIN
  | SUM | MSUM | PROD | MPROD | NEG | APP | ARGS | ARG | SEL | DOTS | MDOTS | DFLT | ATOM | PIECES | LIST | MLIST
deriving DecidableEq
inductive Act where
  | begin | take | label | fresh | enter | leave
  | fin (k : Kind)
deriving DecidableEq
inductive Sym where
  | p (x : Part)
  | t (k : Tok)
  | a (x : Act)
deriving DecidableEq
abbrev tName : Tok := .name []
abbrev tNum : Tok := .num []
abbrev tPiece : Tok := .piece []
abbrev sDots : Tok := .sign [46, 46]
open Part Act Sym in
def choice (x : Part) (k : Tok) : List Sym := match x with
  | EXPR => [a enter, p FORM, a leave]
  | FORM =>
    if k = .word wFn then [t (.word wFn), p FUNCTION]
    else if k = .word wLet then [t (.word wLet), a begin, t tName, p BOUND, p BINDS, t (.word wIn), p EXPR, a (fin .letIn)]
    else if k = .word wIf then [t (.word wIf), a begin, p EXPR, t (.word wThen), p EXPR, t (.word wElse), p EXPR, a (fin .cond)]
    else if k = .word wMust then [t (.word wMust), a begin, p EXPR, t sSemi, p EXPR, a (fin .must)]
    else [p OR]
  | FUNCTION =>
    if k = tName then [t tName, a begin, a label, t sColon, p EXPR, a (fin .fn)]
    else [t sBrace, a begin, p FIELDS]
  | FIELDS => if k = sUnbrace then [t sUnbrace, t sColon, p EXPR, a (fin .fields)] else [p PARAMS]
  | PARAMS =>
    if k = sDots then [t sDots, t sUnbrace, t sColon, p EXPR, a (fin .openFields)]
    else [t tName, a fresh, a begin, a label, p GIVEN, a (fin .param), p MPARAMS]
  | GIVEN => if k = sAsk then [t sAsk, p EXPR] else []
  | MPARAMS => if k = sComma then [t sComma, p PARAMS] else [t sUnbrace, t sColon, p EXPR, a (fin .fields)]
  | BINDS => if k = tName then [t tName, p BOUND, p BINDS] else []
  | BOUND => [a fresh, a label, t sIs, p EXPR, t sSemi]
  | OR => [p AND, p MOR]
  | MOR => if k = .word wOr then [t (.word wOr), a take, p AND, a (fin (.op .or)), p MOR] else []
  | AND => [p NOT, p MAND]
  | MAND => if k = .word wAnd then [t (.word wAnd), a take, p NOT, a (fin (.op .and)), p MAND] else []
  | NOT => if k = .word wNot then [t (.word wNot), a begin, p NOT, a (fin .not)] else [p CMP]
  | CMP => [p UPD, p MCMP]
  | MCMP =>
    if k = .sign [61, 61] then [t (.sign [61, 61]), a take, p UPD, a (fin (.op .eq))]
    else if k = .sign [33, 61] then [t (.sign [33, 61]), a take, p UPD, a (fin (.op .ne))]
    else if k = .sign [60] then [t (.sign [60]), a take, p UPD, a (fin (.op .lt))]
    else if k = .sign [60, 61] then [t (.sign [60, 61]), a take, p UPD, a (fin (.op .le))]
    else if k = .word wHas then [t (.word wHas), a take, t tName, a label, a (fin .has)]
    else []
  | UPD => [p JOIN, p MUPD]
  | MUPD => if k = .sign [47, 47] then [t (.sign [47, 47]), a take, p UPD, a (fin (.op .upd))] else []
  | JOIN => [p SUM, p MJOIN]
  | MJOIN => if k = .sign [43, 43] then [t (.sign [43, 43]), a take, p JOIN, a (fin (.op .join))] else []
  | SUM => [p PROD, p MSUM]
  | MSUM =>
    if k = .sign [43] then [t (.sign [43]), a take, p PROD, a (fin (.op .add)), p MSUM]
    else if k = sMinus then [t sMinus, a take, p PROD, a (fin (.op .sub)), p MSUM]
    else []
  | PROD => [p NEG, p MPROD]
  | MPROD => if k = .sign [42] then [t (.sign [42]), a take, p NEG, a (fin (.op .mul)), p MPROD] else []
  | NEG => if k = sMinus then [t sMinus, a begin, p NEG, a (fin .neg)] else [p APP]
  | APP => [p SEL, p ARGS]
  | ARGS => if begins k then [p ARG, p ARGS] else []
  | ARG => [a take, p SEL, a (fin .app)]
  | SEL => [p ATOM, p DOTS]
  | DOTS => if k = sDot then [t sDot, a take, t tName, a label, p MDOTS, p DFLT, a (fin .get)] else []
  | MDOTS => if k = sDot then [t sDot, t tName, a label, p MDOTS] else []
  | DFLT => if k = sAsk then [t sAsk, p ATOM] else []
  | ATOM =>
    if k = tName then [t tName, a begin, a label, a (fin .name)]
    else if k = tNum then [t tNum, a begin, a label, a (fin .num)]
    else if k = .word wTrue then [t (.word wTrue), a begin, a (fin .yes)]
    else if k = .word wFalse then [t (.word wFalse), a begin, a (fin .no)]
    else if k = .word wNone then [t (.word wNone), a begin, a (fin .none)]
    else if k = .quote then [t .quote, a begin, p PIECES, t .unquote, a (fin .text)]
    else if k = .sign [40] then [t (.sign [40]), p EXPR, t sClose]
    else if k = .sign [91] then [t (.sign [91]), a begin, p LIST, a (fin .list)]
    else if k = sBrace then [t sBrace, a begin, p BINDS, t sUnbrace, a (fin .record)]
    else [t (.word wRec), t sBrace, a begin, p BINDS, t sUnbrace, a (fin .recur)]
  | PIECES =>
    if k = tPiece then [t tPiece, a begin, a label, a (fin .piece), p PIECES]
    else if k = .hole then [t .hole, p EXPR, t .unhole, p PIECES]
    else []
  | LIST => if k = sListClose then [t sListClose] else [p EXPR, p MLIST, t sListClose]
  | MLIST => if k = sComma then [t sComma, p EXPR, p MLIST] else []
structure Bg where
  first : Nat
  labels : List Text
  names : List Text
structure MS where
  ts : Marks
  pv : Mark
  lv : Nat
  W : List Sym
  B : List Tree
  G : List Bg
def stepA (x : Act) (ts : Marks) (pv : Mark) (lv : Nat) (W : List Sym) (B : List Tree) (G : List Bg) : Option (Except Fault MS) := match x with
  | .begin => some (.ok ⟨ts, pv, lv, W, B, ⟨B.length, [], []⟩ :: G⟩)
  | .take => if B.length = 0 then none else some (.ok ⟨ts, pv, lv, W, B, ⟨B.length - 1, [], []⟩ :: G⟩)
  | .label => match G with
    | [] => none
    | g :: r => some (.ok ⟨ts, pv, lv, W, B, ⟨g.first, g.labels ++ [held pv.tok], g.names⟩ :: r⟩)
  | .fresh => match G with
    | [] => none
    | g :: r => if held pv.tok ∈ g.names then some (.error ⟨5, pv.place⟩) else some (.ok ⟨ts, pv, lv, W, B, ⟨g.first, g.labels, g.names ++ [held pv.tok]⟩ :: r⟩)
  | .enter => match ts with
    | [] => none
    | m :: _ => if lv = 40 then some (.error ⟨4, m.place⟩) else some (.ok ⟨ts, pv, lv + 1, W, B, G⟩)
  | .leave => if lv = 0 then none else some (.ok ⟨ts, pv, lv - 1, W, B, G⟩)
  | .fin k => match G with
    | [] => none
    | g :: r => if g.first <= B.length then some (.ok ⟨ts, pv, lv, W, B.take g.first ++ [.node k g.labels (B.drop g.first)], r⟩) else none
def step (s : MS) : Option (Except Fault MS) := match s.W with
  | [] => none
  | .p x :: W => match s.ts with
    | [] => none
    | m :: _ => some (.ok { s with W := choice x (kd m.tok) ++ W })
  | .t k :: W => match s.ts with
    | [] => none
    | m :: r => if kd m.tok = k then some (.ok ⟨r, m, s.lv, W, s.B, s.G⟩) else some (.error ⟨3, m.place⟩)
  | .a x :: W => stepA x s.ts s.pv s.lv W s.B s.G
inductive Run (Q : MS -> Prop) (E : Fault -> Prop) : MS -> Prop
  | done {s : MS} : Q s -> Run Q E s
  | next {s s' : MS} : step s = some (.ok s') -> Run Q E s' -> Run Q E s
  | fail {s : MS} {x : Fault} : step s = some (.error x) -> E x -> Run Q E s
inductive RunN (Q : MS -> Prop) (E : Fault -> Prop) : Nat -> MS -> Prop
  | done {s : MS} : Q s -> RunN Q E 0 s
  | next {n : Nat} {s s' : MS} : step s = some (.ok s') -> RunN Q E n s' -> RunN Q E (n + 1) s
  | fail {n : Nat} {s : MS} {x : Fault} : step s = some (.error x) -> E x -> RunN Q E (n + 1) s
theorem Run.count {Q : MS -> Prop} {E : Fault -> Prop} {s : MS} (h : Run Q E s) : ∃ n, RunN Q E n s := by
  induction h with
  | done q => exact ⟨0, .done q⟩
  | next e _ ih => obtain ⟨n, h⟩ := ih; exact ⟨n + 1, .next e h⟩
  | fail e q => exact ⟨1, .fail e q⟩
mutual
def good : Tree -> Bool
  | .node k ls l => goodsOf l && (match k with
    | .piece => ls.length == 1 && l.isEmpty
    | .num => ls.length == 1 && l.isEmpty
    | .yes => ls.isEmpty && l.isEmpty
    | .no => ls.isEmpty && l.isEmpty
    | .none => ls.isEmpty && l.isEmpty
    | .name => ls.length == 1 && l.isEmpty
    | .text => ls.isEmpty
    | .list => ls.isEmpty
    | .record => ls.length == l.length
    | .recur => ls.length == l.length
    | .get => l.length == 1 || l.length == 2
    | .app => ls.isEmpty && l.length == 2
    | .neg => ls.isEmpty && l.length == 1
    | .not => ls.isEmpty && l.length == 1
    | .has => ls.length == 1 && l.length == 1
    | .fn => ls.length == 1 && l.length == 1
    | .fields => ls.isEmpty && !l.isEmpty
    | .openFields => ls.isEmpty && !l.isEmpty
    | .param => ls.length == 1 && (l.length == 0 || l.length == 1)
    | .letIn => ls.length + 1 == l.length
    | .cond => ls.isEmpty && l.length == 3
    | .must => ls.isEmpty && l.length == 2
    | .op _ => ls.isEmpty && l.length == 2)
def goodsOf : List Tree -> Bool
  | [] => true
  | t :: r => good t && goodsOf r
end
theorem goodsOf_append : ∀ (a b : List Tree), goodsOf (a ++ b) = (goodsOf a && goodsOf b)
  | [], b => by simp [goodsOf]
  | t :: r, b => by simp [goodsOf, goodsOf_append r b, Bool.and_assoc]
end RM
end
section
set_option autoImplicit false
namespace RM
open Vastoa
def Ends (ts : Marks) : Prop := ∃ (pre : Marks) (q : Nat), ts = pre ++ [⟨q, .fin⟩] /\ ∀ m ∈ pre, m.tok ≠ .fin
theorem Ends.cons {ts : Marks} (h : Ends ts) : ∃ m r, ts = m :: r /\ (m.tok ≠ .fin -> Ends r) /\ (m.tok = .fin -> r = []) := by
  obtain ⟨pre, q, rfl, hp⟩ := h
  cases pre with
  | nil => exact ⟨⟨q, .fin⟩, [], rfl, fun h => absurd rfl h, fun _ => rfl⟩
  | cons m r => exact ⟨m, r ++ [⟨q, .fin⟩], rfl, fun _ => ⟨r, q, rfl, fun x hx => hp x (List.mem_cons_of_mem _ hx)⟩, fun h => absurd h (hp m List.mem_cons_self)⟩
def bareTok : Tok -> Bool
  | .word _ => true
  | .sign _ => true
  | .quote => true
  | .unquote => true
  | .hole => true
  | .unhole => true
  | _ => false
theorem kd_bare {k t : Tok} (h : bareTok k = true) : kd t = k ↔ t = k := by
  cases t <;> cases k <;> simp_all [kd, bareTok]
theorem bare_ne_fin {k : Tok} (h : bareTok k = true) : k ≠ .fin := by rintro rfl; cases h
theorem kd_name {t : Tok} : kd t = tName ↔ ∃ x, t = .name x := by cases t <;> simp [kd, tName]
theorem kd_num {t : Tok} : kd t = tNum ↔ ∃ x, t = .num x := by cases t <;> simp [kd, tNum]
theorem kd_piece {t : Tok} : kd t = tPiece ↔ ∃ x, t = .piece x := by cases t <;> simp [kd, tPiece]
theorem kd_fin {t : Tok} : kd t = .fin ↔ t = .fin := by cases t <;> simp [kd]
theorem begins_kd (t : Tok) : begins (kd t) = begins t := by cases t <;> rfl
section
variable {Q : MS -> Prop} {E : Fault -> Prop} {ts : Marks} {pv : Mark} {lv : Nat} {W : List Sym} {B : List Tree} {G : List Bg}
theorem run_p {x : Part} (he : Ends ts) (h : Run Q E ⟨ts, pv, lv, choice x (kd (next ts)) ++ W, B, G⟩) : Run Q E ⟨ts, pv, lv, .p x :: W, B, G⟩ := by
  obtain ⟨m, r, rfl, _⟩ := he.cons
  exact .next rfl h
theorem run_t {k : Tok} (he : Ends ts) (hk : k ≠ .fin)
    (h : ∀ m, kd (next ts) = k -> m.tok = next ts -> m.place = here ts -> Ends (ts.drop 1) -> (ts.drop 1).length < ts.length -> Run Q E ⟨ts.drop 1, m, lv, W, B, G⟩)
    (hx : kd (next ts) ≠ k -> E ⟨3, here ts⟩) : Run Q E ⟨ts, pv, lv, .t k :: W, B, G⟩ := by
  obtain ⟨m, r, rfl, he', _⟩ := he.cons
  by_cases e : kd m.tok = k
  · have hm : m.tok ≠ .fin := fun z => hk (by rw [<- e, z]; rfl)
    refine .next (s' := ⟨r, m, lv, W, B, G⟩) ?_ (h m e rfl rfl (he' hm) (by simp))
    show (if kd m.tok = k then _ else _) = _
    rw [if_pos e]
  · refine .fail (x := ⟨3, m.place⟩) ?_ (hx e)
    show (if kd m.tok = k then _ else _) = _
    rw [if_neg e]
theorem run_tk {k : Tok} (he : Ends ts) (hk : k ≠ .fin) (e : kd (next ts) = k)
    (h : ∀ m, m.tok = next ts -> m.place = here ts -> Ends (ts.drop 1) -> (ts.drop 1).length < ts.length -> Run Q E ⟨ts.drop 1, m, lv, W, B, G⟩) : Run Q E ⟨ts, pv, lv, .t k :: W, B, G⟩ :=
  run_t he hk (fun m _ => h m) fun z => absurd e z
theorem run_begin (h : Run Q E ⟨ts, pv, lv, W, B, ⟨B.length, [], []⟩ :: G⟩) : Run Q E ⟨ts, pv, lv, .a .begin :: W, B, G⟩ := .next rfl h
theorem run_take {t : Tree} (h : Run Q E ⟨ts, pv, lv, W, B ++ [t], ⟨B.length, [], []⟩ :: G⟩) : Run Q E ⟨ts, pv, lv, .a .take :: W, B ++ [t], G⟩ := by
  refine .next (s' := ⟨ts, pv, lv, W, B ++ [t], ⟨B.length, [], []⟩ :: G⟩) ?_ h
  show (if (B ++ [t]).length = 0 then none else some (Except.ok (⟨ts, pv, lv, W, B ++ [t], ⟨(B ++ [t]).length - 1, [], []⟩ :: G⟩ : MS))) = _
  rw [if_neg (by simp)]
  simp
theorem run_label {g : Bg} (h : Run Q E ⟨ts, pv, lv, W, B, ⟨g.first, g.labels ++ [held pv.tok], g.names⟩ :: G⟩) : Run Q E ⟨ts, pv, lv, .a .label :: W, B, g :: G⟩ := .next rfl h
theorem run_fresh {g : Bg} (h : held pv.tok ∉ g.names -> Run Q E ⟨ts, pv, lv, W, B, ⟨g.first, g.labels, g.names ++ [held pv.tok]⟩ :: G⟩) (hx : held pv.tok ∈ g.names -> E ⟨5, pv.place⟩) :
    Run Q E ⟨ts, pv, lv, .a .fresh :: W, B, g :: G⟩ := by
  by_cases e : held pv.tok ∈ g.names
  · refine .fail (x := ⟨5, pv.place⟩) ?_ (hx e)
    show (if held pv.tok ∈ g.names then _ else _) = _
    rw [if_pos e]
  · refine .next (s' := ⟨ts, pv, lv, W, B, ⟨g.first, g.labels, g.names ++ [held pv.tok]⟩ :: G⟩) ?_ (h e)
    show (if held pv.tok ∈ g.names then _ else _) = _
    rw [if_neg e]
theorem run_enter (he : Ends ts) (h : lv ≠ 40 -> Run Q E ⟨ts, pv, lv + 1, W, B, G⟩) (hx : lv = 40 -> E ⟨4, here ts⟩) : Run Q E ⟨ts, pv, lv, .a .enter :: W, B, G⟩ := by
  obtain ⟨m, r, rfl, _⟩ := he.cons
  by_cases e : lv = 40
  · refine .fail (x := ⟨4, m.place⟩) ?_ (hx e)
    show (if lv = 40 then _ else _) = _
    rw [if_pos e]
  · refine .next (s' := ⟨m :: r, pv, lv + 1, W, B, G⟩) ?_ (h e)
    show (if lv = 40 then _ else _) = _
    rw [if_neg e]
theorem run_leave (h : Run Q E ⟨ts, pv, lv, W, B, G⟩) : Run Q E ⟨ts, pv, lv + 1, .a .leave :: W, B, G⟩ := by
  refine .next (s' := ⟨ts, pv, lv, W, B, G⟩) ?_ h
  show (if lv + 1 = 0 then none else _) = _
  rw [if_neg (by omega)]
  rfl
theorem run_fin {k : Kind} {ls ns : List Text} {l : List Tree} (h : Run Q E ⟨ts, pv, lv, W, B ++ [.node k ls l], G⟩) : Run Q E ⟨ts, pv, lv, .a (.fin k) :: W, B ++ l, ⟨B.length, ls, ns⟩ :: G⟩ := by
  refine .next (s' := ⟨ts, pv, lv, W, B ++ [.node k ls l], G⟩) ?_ h
  show (if B.length <= (B ++ l).length then _ else _) = _
  rw [if_pos (by simp)]
  simp
theorem run_fin0 {k : Kind} {ls ns : List Text} (h : Run Q E ⟨ts, pv, lv, W, B ++ [.node k ls []], G⟩) : Run Q E ⟨ts, pv, lv, .a (.fin k) :: W, B, ⟨B.length, ls, ns⟩ :: G⟩ := by
  have := run_fin (k := k) (ls := ls) (ns := ns) (l := []) h
  rwa [List.append_nil] at this
end
def SimT (x : Part) (lv : Nat) (f : Read Tree) : Prop :=
  ∀ (Q : MS -> Prop) (E : Fault -> Prop) (ts : Marks) (pv : Mark) (W : List Sym) (B : List Tree) (G : List Bg), Ends ts ->
    (∀ e ts' pv', f ts = .ok (e, ts') -> Ends ts' -> ts'.length < ts.length -> good e = true -> Run Q E ⟨ts', pv', lv, W, B ++ [e], G⟩) ->
    (∀ y, f ts = .error y -> E y) -> Run Q E ⟨ts, pv, lv, .p x :: W, B, G⟩
def SimM (x : Part) (lv : Nat) (f : Nat -> Tree -> Read Tree) : Prop :=
  ∀ (n : Nat) (Q : MS -> Prop) (E : Fault -> Prop) (a : Tree) (ts : Marks) (pv : Mark) (W : List Sym) (B : List Tree) (G : List Bg), Ends ts -> ts.length < n -> good a = true ->
    (∀ e ts' pv', f n a ts = .ok (e, ts') -> Ends ts' -> ts'.length <= ts.length -> good e = true -> Run Q E ⟨ts', pv', lv, W, B ++ [e], G⟩) ->
    (∀ y, f n a ts = .error y -> E y) -> Run Q E ⟨ts, pv, lv, .p x :: W, B ++ [a], G⟩
theorem find_kd : ∀ (ops : List (Tok × Op)), (∀ p ∈ ops, bareTok p.1 = true) -> ∀ (z : Tok), (ops.find? fun p => decide (p.1 = kd z)) = ops.find? fun p => decide (p.1 = z)
  | [], _, _ => rfl
  | p :: r, hb, z => by
    have hp := hb p List.mem_cons_self
    have e1 : decide (p.1 = kd z) = decide (p.1 = z) := decide_eq_decide.mpr ⟨fun q => ((kd_bare hp).mp q.symm).symm, fun q => ((kd_bare hp).mpr q.symm).symm⟩
    rw [List.find?_cons, List.find?_cons, e1, find_kd r (fun q hq => hb q (List.mem_cons_of_mem _ hq)) z]
theorem sim_more {x y : Part} {lv : Nat} {ops : List (Tok × Op)} {under : Read Tree} (hy : SimT y lv under) (hb : ∀ p ∈ ops, bareTok p.1 = true)
    (hc : ∀ k, choice x k = match ops.find? fun p => p.1 = k with
      | some p => [.t p.1, .a .take, .p y, .a (.fin (.op p.2)), .p x]
      | none => []) : SimM x lv (leftMore ops under) := by
  intro n
  induction n with
  | zero => intro Q E a ts pv W B G _ h; exact absurd h (Nat.not_lt_zero _)
  | succ n ih =>
    intro Q E a ts pv W B G he hn ga hok hx
    refine run_p he ?_
    rw [hc]
    have ek := find_kd ops hb (next ts)
    rw [ek]
    cases ef : ops.find? fun p => decide (p.1 = next ts) with
    | none =>
      refine hok a ts pv ?_ he (Nat.le_refl _) ga
      show (match ops.find? fun p => decide (p.1 = next ts) with | some p => _ | none => _) = _
      rw [ef]
    | some p =>
      have hp := hb p (List.mem_of_find?_eq_some ef)
      have e1 : p.1 = next ts := of_decide_eq_true (List.find?_some (p := fun p : Tok × Op => decide (p.1 = next ts)) ef)
      have ev : leftMore ops under (n + 1) a ts = (under (ts.drop 1)).bind fun b => leftMore ops under n (.node (.op p.2) [] [a, b.1]) b.2 := by
        show (match ops.find? fun p => decide (p.1 = next ts) with | some p => _ | none => _) = _
        rw [ef]
      rw [ev] at hok hx
      refine run_tk he (bare_ne_fin hp) ((kd_bare hp).mpr e1.symm) fun m _ _ he1 hl => ?_
      refine run_take (hy _ _ _ _ _ _ _ he1 (fun b ts2 pv2 eb he2 hl2 gb => ?_) fun z ez => hx z (by rw [ez]; rfl))
      rw [eb] at hok hx
      have e3 : B ++ [a] ++ [b] = B ++ [a, b] := by simp
      rw [e3]
      refine run_fin (ih _ _ _ _ _ _ _ _ he2 (by omega) (by simp [good, goodsOf, ga, gb]) (fun e ts' pv' h1 h2 h3 h4 => hok e ts' pv' h1 h2 (by omega) h4) fun z ez => hx z ez)
theorem sim_left {x y w : Part} {lv : Nat} {ops : List (Tok × Op)} {under : Read Tree} (hy : SimT y lv under) (hm : SimM w lv (leftMore ops under)) (hc : ∀ k, choice x k = [.p y, .p w]) : SimT x lv (left ops under) := by
  intro Q E ts pv W B G he hok hx
  refine run_p he ?_
  rw [hc]
  have ev : left ops under ts = (under ts).bind fun a => leftMore ops under (a.2.length + 1) a.1 a.2 := rfl
  rw [ev] at hok hx
  refine hy _ _ _ _ _ _ _ he (fun a ts1 pv1 ea he1 hl1 ga => ?_) fun z ez => hx z (by rw [ez]; rfl)
  rw [ea] at hok hx
  exact hm _ _ _ _ _ _ _ _ _ he1 (Nat.lt_succ_self _) ga (fun e ts' pv' h1 h2 h3 h4 => hok e ts' pv' h1 h2 (by omega) h4) fun z ez => hx z ez
theorem sim_right {x y w : Part} {lv : Nat} {t : Tok} {o : Op} {under : Read Tree} (hy : SimT y lv under) (ht : bareTok t = true) (hc : ∀ k, choice x k = [.p y, .p w])
    (hw : ∀ k, choice w k = if k = t then [.t t, .a .take, .p x, .a (.fin (.op o))] else []) : SimT x lv (fun ts => right t o under (ts.length + 1) ts) := by
  have all : ∀ (n : Nat) (Q : MS -> Prop) (E : Fault -> Prop) (ts : Marks) (pv : Mark) (W : List Sym) (B : List Tree) (G : List Bg), Ends ts -> ts.length < n ->
    (∀ e ts' pv', right t o under n ts = .ok (e, ts') -> Ends ts' -> ts'.length < ts.length -> good e = true -> Run Q E ⟨ts', pv', lv, W, B ++ [e], G⟩) ->
    (∀ y, right t o under n ts = .error y -> E y) -> Run Q E ⟨ts, pv, lv, .p x :: W, B, G⟩ := by
    intro n
    induction n with
    | zero => intro Q E ts pv W B G _ h; exact absurd h (Nat.not_lt_zero _)
    | succ n ih =>
      intro Q E ts pv W B G he hn hok hx
      refine run_p he ?_
      rw [hc]
      have ev : right t o under (n + 1) ts = (under ts).bind fun a => if next a.2 = t then also (fun b => .node (.op o) [] [a.1, b]) (right t o under n (a.2.drop 1)) else .ok a := rfl
      rw [ev] at hok hx
      refine hy _ _ _ _ _ _ _ he (fun a ts1 pv1 ea he1 hl1 ga => ?_) fun z ez => hx z (by rw [ez]; rfl)
      rw [ea] at hok hx
      refine run_p he1 ?_
      rw [hw]
      by_cases e1 : next ts1 = t
      · rw [if_pos ((kd_bare ht).mpr e1)]
        have ev2 : (Except.ok (a, ts1) : Except Fault (Tree × Marks)).bind (fun a => if next a.2 = t then also (fun b => .node (.op o) [] [a.1, b]) (right t o under n (a.2.drop 1)) else .ok a) = also (fun b => .node (.op o) [] [a, b]) (right t o under n (ts1.drop 1)) := by
          show (if next ts1 = t then _ else _) = _
          rw [if_pos e1]
        rw [ev2] at hok hx
        refine run_tk he1 (bare_ne_fin ht) ((kd_bare ht).mpr e1) fun m _ _ he2 hl2 => ?_
        refine run_take (ih _ _ _ _ _ _ _ he2 (by omega) (fun b ts3 pv3 eb he3 hl3 gb => ?_) fun z ez => hx z (by rw [ez]; rfl))
        rw [eb] at hok hx
        have e3 : B ++ [a] ++ [b] = B ++ [a, b] := by simp
        rw [e3]
        exact run_fin (hok _ _ _ rfl he3 (by omega) (by simp [good, goodsOf, ga, gb]))
      · rw [if_neg fun z => e1 ((kd_bare ht).mp z)]
        refine hok a ts1 _ ?_ he1 hl1 ga
        show (if next ts1 = t then _ else _) = _
        rw [if_neg e1]
  intro Q E ts pv W B G he hok hx
  exact all _ _ _ _ _ _ _ _ he (Nat.lt_succ_self _) hok hx
theorem sim_prefixed {x y : Part} {lv : Nat} {t : Tok} {k : Kind} {under : Read Tree} (hy : SimT y lv under) (ht : bareTok t = true) (hg : ∀ e, good e = true -> good (.node k [] [e]) = true)
    (hc : ∀ z, choice x z = if z = t then [.t t, .a .begin, .p x, .a (.fin k)] else [.p y]) : SimT x lv (fun ts => prefixed t k under (ts.length + 1) ts) := by
  have all : ∀ (n : Nat) (Q : MS -> Prop) (E : Fault -> Prop) (ts : Marks) (pv : Mark) (W : List Sym) (B : List Tree) (G : List Bg), Ends ts -> ts.length < n ->
    (∀ e ts' pv', prefixed t k under n ts = .ok (e, ts') -> Ends ts' -> ts'.length < ts.length -> good e = true -> Run Q E ⟨ts', pv', lv, W, B ++ [e], G⟩) ->
    (∀ y, prefixed t k under n ts = .error y -> E y) -> Run Q E ⟨ts, pv, lv, .p x :: W, B, G⟩ := by
    intro n
    induction n with
    | zero => intro Q E ts pv W B G _ h; exact absurd h (Nat.not_lt_zero _)
    | succ n ih =>
      intro Q E ts pv W B G he hn hok hx
      refine run_p he ?_
      rw [hc]
      by_cases e1 : next ts = t
      · rw [if_pos ((kd_bare ht).mpr e1)]
        have ev : prefixed t k under (n + 1) ts = also (fun e => .node k [] [e]) (prefixed t k under n (ts.drop 1)) := by
          show (if next ts = t then _ else _) = _
          rw [if_pos e1]
        rw [ev] at hok hx
        refine run_tk he (bare_ne_fin ht) ((kd_bare ht).mpr e1) fun m _ _ he1 hl1 => run_begin ?_
        refine ih _ _ _ _ _ _ _ he1 (by omega) (fun b ts3 pv3 eb he3 hl3 gb => ?_) fun z ez => hx z (by rw [ez]; rfl)
        rw [eb] at hok hx
        exact run_fin (l := [b]) (hok _ _ _ rfl he3 (by omega) (hg b gb))
      · rw [if_neg fun z => e1 ((kd_bare ht).mp z)]
        have ev : prefixed t k under (n + 1) ts = under ts := by
          show (if next ts = t then _ else _) = _
          rw [if_neg e1]
        rw [ev] at hok hx
        exact hy _ _ _ _ _ _ _ he hok hx
  intro Q E ts pv W B G he hok hx
  exact all _ _ _ _ _ _ _ _ he (Nat.lt_succ_self _) hok hx
end RM
end
section
set_option autoImplicit false
namespace RM
open Vastoa
section
variable {Q : MS -> Prop} {E : Fault -> Prop} {ts : Marks} {pv : Mark} {lv : Nat} {W : List Sym} {B : List Tree} {G : List Bg} {sub : Read Tree}
theorem expect_ok {t : Tok} (h : next ts = t) : expect t ts = .ok ((), ts.drop 1) := by unfold expect; rw [if_pos h]
theorem expect_no {t : Tok} (h : next ts ≠ t) : expect t ts = .error ⟨3, here ts⟩ := by unfold expect; rw [if_neg h]; rfl
theorem run_x {t : Tok} (he : Ends ts) (ht : bareTok t = true)
    (h : ∀ m, expect t ts = .ok ((), ts.drop 1) -> Ends (ts.drop 1) -> (ts.drop 1).length < ts.length -> Run Q E ⟨ts.drop 1, m, lv, W, B, G⟩)
    (hx : expect t ts = .error ⟨3, here ts⟩ -> E ⟨3, here ts⟩) : Run Q E ⟨ts, pv, lv, .t t :: W, B, G⟩ :=
  run_t he (bare_ne_fin ht) (fun m e _ _ h1 h2 => h m (expect_ok ((kd_bare ht).mp e)) h1 h2) fun e => hx (expect_no fun z => e ((kd_bare ht).mpr z))
theorem run_closed {t : Tok} (hs : SimT .EXPR lv sub) (he : Ends ts) (ht : bareTok t = true)
    (hok : ∀ e ts' pv', closedBy t sub ts = .ok (e, ts') -> Ends ts' -> ts'.length < ts.length -> good e = true -> Run Q E ⟨ts', pv', lv, W, B ++ [e], G⟩)
    (hx : ∀ y, closedBy t sub ts = .error y -> E y) : Run Q E ⟨ts, pv, lv, .p .EXPR :: .t t :: W, B, G⟩ := by
  have ev : closedBy t sub ts = (sub ts).bind fun e => (expect t e.2).bind fun u => .ok (e.1, u.2) := rfl
  rw [ev] at hok hx
  refine hs _ _ _ _ _ _ _ he (fun a ts1 pv1 ea he1 hl1 ga => ?_) fun z ez => hx z (by rw [ez]; rfl)
  rw [ea] at hok hx
  refine run_x he1 ht (fun m e1 he2 hl2 => hok a _ _ ?_ he2 (by omega) ga) fun e1 => hx _ ?_
  · show (expect t ts1).bind _ = _
    rw [e1]; rfl
  · show (expect t ts1).bind _ = _
    rw [e1]; rfl
theorem not_name {t : Tok} (h : kd t ≠ tName) : ∀ x, t ≠ .name x := fun x e => h (by rw [e]; rfl)
theorem run_name (he : Ends ts)
    (h : ∀ m x, next ts = .name x -> m.tok = .name x -> m.place = here ts -> Ends (ts.drop 1) -> (ts.drop 1).length < ts.length -> Run Q E ⟨ts.drop 1, m, lv, W, B, G⟩)
    (hx : (∀ x, next ts ≠ .name x) -> E ⟨3, here ts⟩) : Run Q E ⟨ts, pv, lv, .t tName :: W, B, G⟩ :=
  run_t he (by intro z; cases z) (fun m e e2 e3 h1 h2 => by
    obtain ⟨x, ex⟩ := kd_name.mp e
    exact h m x ex (e2.trans ex) e3 h1 h2) fun e => hx (not_name e)
theorem nameTok_ok {x : Text} (h : next ts = .name x) : nameTok ts = .ok (x, ts.drop 1) := by unfold nameTok; rw [h]
theorem nameTok_no (h : ∀ x, next ts ≠ .name x) : nameTok ts = .error ⟨3, here ts⟩ := by
  unfold nameTok
  cases e : next ts with
  | name x => exact absurd e (h x)
  | _ => rfl
theorem sim_pieces (hs : SimT .EXPR lv sub) : ∀ (n : Nat) (ts : Marks) (pv : Mark) (W : List Sym) (B : List Tree) (G : List Bg), Ends ts -> ts.length < n ->
    (∀ l ts' pv', pieces sub n ts = .ok (l, ts') -> Ends ts' -> ts'.length < ts.length -> goodsOf l = true -> Run Q E ⟨ts', pv', lv, W, B ++ l, G⟩) ->
    (∀ y, pieces sub n ts = .error y -> E y) -> Run Q E ⟨ts, pv, lv, .p .PIECES :: .t .unquote :: W, B, G⟩ := by
  intro n
  induction n with
  | zero => intro ts pv W B G _ h; exact absurd h (Nat.not_lt_zero _)
  | succ n ih =>
    intro ts pv W B G he hn hok hx
    refine run_p he ?_
    show Run Q E ⟨ts, pv, lv, (if kd (next ts) = tPiece then [.t tPiece, .a .begin, .a .label, .a (.fin .piece), .p .PIECES] else if kd (next ts) = .hole then [.t .hole, .p .EXPR, .t .unhole, .p .PIECES] else []) ++ .t .unquote :: W, B, G⟩
    by_cases e1 : kd (next ts) = tPiece
    · rw [if_pos e1]
      obtain ⟨x, ex⟩ := kd_piece.mp e1
      have ev : pieces sub (n + 1) ts = also (fun l => .node .piece [x] [] :: l) (pieces sub n (ts.drop 1)) := by
        show (match next ts with | .unquote => _ | .piece x => _ | .hole => _ | _ => _) = _
        rw [ex]
      rw [ev] at hok hx
      refine run_tk he (by intro z; cases z) e1 fun m em _ he1 hl1 => run_begin (run_label (run_fin0 ?_))
      have eh : held m.tok = x := by rw [em, ex]; rfl
      rw [eh]
      refine ih _ _ _ _ _ he1 (by omega) (fun l ts2 pv2 el he2 hl2 gl => ?_) fun z ez => hx z (by rw [ez]; rfl)
      rw [el] at hok hx
      have := hok (.node .piece [x] [] :: l) ts2 pv2 rfl he2 (by omega) (by simp [goodsOf, good, gl])
      rw [List.append_assoc]
      exact this
    · rw [if_neg e1]
      by_cases e2 : kd (next ts) = .hole
      · rw [if_pos e2]
        have ex : next ts = .hole := (kd_bare (k := .hole) rfl).mp e2
        have ev : pieces sub (n + 1) ts = (closedBy .unhole sub (ts.drop 1)).bind fun e => also (fun l => e.1 :: l) (pieces sub n e.2) := by
          show (match next ts with | .unquote => _ | .piece x => _ | .hole => _ | _ => _) = _
          rw [ex]
        rw [ev] at hok hx
        refine run_tk he (by intro z; cases z) e2 fun m em _ he1 hl1 => run_closed hs he1 rfl (fun a ts2 pv2 ea he2 hl2 ga => ?_) fun z ez => hx z (by rw [ez]; rfl)
        rw [ea] at hok hx
        refine ih _ _ _ _ _ he2 (by omega) (fun l ts3 pv3 el he3 hl3 gl => ?_) fun z ez => hx z (by show also _ (pieces sub n ts2) = _; rw [ez]; rfl)
        have := hok (a :: l) ts3 pv3 (by show also _ (pieces sub n ts2) = _; rw [el]; rfl) he3 (by omega) (by simp [goodsOf, ga, gl])
        rw [List.append_assoc]
        exact this
      · rw [if_neg e2]
        refine run_t he (by intro z; cases z) (fun m e em _ he1 hl1 => ?_) fun e => hx _ ?_
        · have ex : next ts = .unquote := (kd_bare (k := .unquote) rfl).mp e
          have := hok [] (ts.drop 1) m (by show (match next ts with | .unquote => _ | .piece x => _ | .hole => _ | _ => _) = _; rw [ex]) he1 hl1 rfl
          rwa [List.append_nil] at this
        · show (match next ts with | .unquote => _ | .piece x => _ | .hole => _ | _ => _) = _
          cases ex : next ts with
          | unquote => rw [ex] at e; exact absurd rfl e
          | piece x => rw [ex] at e1; exact absurd rfl e1
          | hole => rw [ex] at e2; exact absurd rfl e2
          | _ => rfl
theorem sim_elems (hs : SimT .EXPR lv sub) : ∀ (n : Nat) (ts : Marks) (pv : Mark) (W : List Sym) (B : List Tree) (G : List Bg), Ends ts -> ts.length < n ->
    (∀ l ts' pv', elements sub n ts = .ok (l, ts') -> Ends ts' -> ts'.length < ts.length -> goodsOf l = true -> Run Q E ⟨ts', pv', lv, W, B ++ l, G⟩) ->
    (∀ y, elements sub n ts = .error y -> E y) -> Run Q E ⟨ts, pv, lv, .p .EXPR :: .p .MLIST :: .t sListClose :: W, B, G⟩ := by
  intro n
  induction n with
  | zero => intro ts pv W B G _ h; exact absurd h (Nat.not_lt_zero _)
  | succ n ih =>
    intro ts pv W B G he hn hok hx
    have ev : elements sub (n + 1) ts = (sub ts).bind fun e =>
      if next e.2 = sComma then also (fun l => e.1 :: l) (elements sub n (e.2.drop 1)) else (expect sListClose e.2).bind fun u => .ok ([e.1], u.2) := rfl
    rw [ev] at hok hx
    refine hs _ _ _ _ _ _ _ he (fun a ts1 pv1 ea he1 hl1 ga => ?_) fun z ez => hx z (by rw [ez]; rfl)
    rw [ea] at hok hx
    refine run_p he1 ?_
    show Run Q E ⟨ts1, pv1, lv, (if kd (next ts1) = sComma then [.t sComma, .p .EXPR, .p .MLIST] else []) ++ .t sListClose :: W, B ++ [a], G⟩
    by_cases e1 : next ts1 = sComma
    · rw [if_pos ((kd_bare (k := sComma) rfl).mpr e1)]
      have ev2 : (Except.ok (a, ts1) : Except Fault (Tree × Marks)).bind (fun e => if next e.2 = sComma then also (fun l => e.1 :: l) (elements sub n (e.2.drop 1)) else (expect sListClose e.2).bind fun u => .ok ([e.1], u.2)) =
        also (fun l => a :: l) (elements sub n (ts1.drop 1)) := by
        show (if next ts1 = sComma then _ else _) = _
        rw [if_pos e1]
      rw [ev2] at hok hx
      refine run_tk he1 (by intro z; cases z) ((kd_bare (k := sComma) rfl).mpr e1) fun m em _ he2 hl2 => ?_
      refine ih _ _ _ _ _ he2 (by omega) (fun l ts3 pv3 el he3 hl3 gl => ?_) fun z ez => hx z (by rw [ez]; rfl)
      have := hok (a :: l) ts3 pv3 (by rw [el]; rfl) he3 (by omega) (by simp [goodsOf, ga, gl])
      rw [List.append_assoc]
      exact this
    · rw [if_neg fun z => e1 ((kd_bare (k := sComma) rfl).mp z)]
      have ev2 : (Except.ok (a, ts1) : Except Fault (Tree × Marks)).bind (fun e => if next e.2 = sComma then also (fun l => e.1 :: l) (elements sub n (e.2.drop 1)) else (expect sListClose e.2).bind fun u => .ok ([e.1], u.2)) =
        (expect sListClose ts1).bind fun u => .ok ([a], u.2) := by
        show (if next ts1 = sComma then _ else _) = _
        rw [if_neg e1]
      rw [ev2] at hok hx
      refine run_x he1 rfl (fun m e3 he2 hl2 => hok [a] _ _ (by rw [e3]; rfl) he2 (by omega) (by simp [goodsOf, ga])) fun e3 => hx _ (by rw [e3]; rfl)
def Met (g : Bg) (seen : List Text) : Prop := ∀ x, x ∈ g.names ↔ seen.contains x = true
theorem Met.more {g : Bg} {seen : List Text} {x : Text} (h : Met g seen) (f : Nat) (ls : List Text) : Met ⟨f, ls, g.names ++ [x]⟩ (x :: seen) := fun y => by
  show y ∈ g.names ++ [x] ↔ _
  rw [List.mem_append, h y, List.contains_cons]
  simp
  constructor
  · rintro (h | h)
    · exact .inr h
    · exact .inl h
  · rintro (h | h)
    · exact .inr h
    · exact .inl h
def BindsOk (Q : MS -> Prop) (E : Fault -> Prop) (sub : Read Tree) (lv n : Nat) (V : List Sym) : Prop :=
  ∀ (seen : List Text) (g : Bg) (ts : Marks) (pv : Mark) (W : List Sym) (B : List Tree) (G : List Bg), Ends ts -> ts.length < n -> Met g seen -> (V ≠ [.p .BINDS] -> ∃ x, next ts = .name x) ->
    (∀ l ts' pv' ns, binds sub n seen ts = .ok (l, ts') -> Ends ts' -> ts'.length <= ts.length -> goodsOf (l.map fun x => x.2) = true -> (V ≠ [.p .BINDS] -> l ≠ []) -> Run Q E ⟨ts', pv', lv, W, B ++ l.map (fun x => x.2), ⟨g.first, g.labels ++ l.map (fun x => x.1), ns⟩ :: G⟩) ->
    (∀ y, binds sub n seen ts = .error y -> E y) -> Run Q E ⟨ts, pv, lv, V ++ W, B, g :: G⟩
theorem binds_one (hs : SimT .EXPR lv sub) {n : Nat} (ih : BindsOk Q E sub lv n [.p .BINDS]) : BindsOk Q E sub lv (n + 1) [.t tName, .p .BOUND, .p .BINDS] := by
  intro seen g ts pv W B G he hn hm hv hok hx
  obtain ⟨x, ex⟩ := hv (by intro z; cases z)
  have ev : binds sub (n + 1) seen ts = if seen.contains x then .error ⟨5, here ts⟩
      else (expect sIs (ts.drop 1)).bind fun u => (closedBy sSemi sub u.2).bind fun e => also (fun l => (x, e.1) :: l) (binds sub n (x :: seen) e.2) := by
    show (match next ts with | .name x => _ | _ => _) = _
    rw [ex]
  rw [ev] at hok hx
  refine run_tk he (by intro z; cases z) (by rw [ex]; rfl) fun m em ep he1 hl1 => ?_
  have eh : held m.tok = x := by rw [em, ex]; rfl
  refine run_p he1 ?_
  show Run Q E ⟨ts.drop 1, m, lv, .a .fresh :: .a .label :: .t sIs :: .p .EXPR :: .t sSemi :: .p .BINDS :: W, B, g :: G⟩
  refine run_fresh (fun hn1 => ?_) fun hn1 => ?_
  · rw [eh] at hn1 ⊢
    have hns : ¬ seen.contains x = true := fun z => hn1 ((hm x).mpr z)
    rw [if_neg hns] at hok hx
    refine run_label ?_
    rw [eh]
    refine run_x he1 rfl (fun m2 e2 he2 hl2 => ?_) fun e2 => hx _ (by rw [e2]; rfl)
    rw [e2] at hok hx
    refine run_closed hs he2 rfl (fun a ts3 pv3 ea he3 hl3 ga => ?_) fun z ez => hx z (by show (closedBy sSemi sub ((ts.drop 1).drop 1)).bind _ = _; rw [ez]; rfl)
    refine ih (x :: seen) _ ts3 pv3 W (B ++ [a]) G he3 (by omega) (hm.more _ _) (fun z => absurd rfl z) (fun l ts4 pv4 ns el he4 hl4 gl _ => ?_) fun z ez => hx z ?_
    · have := hok ((x, a) :: l) ts4 pv4 ns (by show (closedBy sSemi sub ((ts.drop 1).drop 1)).bind _ = _; rw [ea]; show also _ (binds sub n (x :: seen) ts3) = _; rw [el]; rfl) he4 (by omega) (by simp only [List.map_cons, goodsOf, ga, gl, Bool.and_self]) (fun _ z => by cases z)
      simp only [List.map_cons, List.append_assoc, List.singleton_append] at this ⊢
      exact this
    · show (closedBy sSemi sub ((ts.drop 1).drop 1)).bind _ = _
      rw [ea]
      show also _ (binds sub n (x :: seen) ts3) = _
      rw [ez]; rfl
  · rw [eh] at hn1
    rw [if_pos ((hm x).mp hn1)] at hx
    rw [ep]
    exact hx _ rfl
theorem binds_all (hs : SimT .EXPR lv sub) : ∀ n, BindsOk Q E sub lv n [.p .BINDS] := by
  intro n
  induction n with
  | zero => intro seen g ts pv W B G _ h; exact absurd h (Nat.not_lt_zero _)
  | succ n ih =>
    intro seen g ts pv W B G he hn hm _ hok hx
    refine run_p (W := W) he ?_
    show Run Q E ⟨ts, pv, lv, (if kd (next ts) = tName then [.t tName, .p .BOUND, .p .BINDS] else []) ++ W, B, g :: G⟩
    by_cases e1 : kd (next ts) = tName
    · rw [if_pos e1]
      exact binds_one hs ih seen g ts pv W B G he hn hm (fun _ => kd_name.mp e1) (fun l ts' pv' ns h1 h2 h3 h4 _ => hok l ts' pv' ns h1 h2 h3 h4 fun z => absurd rfl z) hx
    · rw [if_neg e1]
      have ev : binds sub (n + 1) seen ts = .ok ([], ts) := by
        show (match next ts with | .name x => _ | _ => _) = _
        cases ex : next ts with
        | name x => exact absurd ex (not_name e1 x)
        | _ => rfl
      have := hok [] ts pv g.names ev he (Nat.le_refl _) rfl fun z => absurd rfl z
      simp only [List.map_nil, List.append_nil] at this
      exact this
theorem run_fields {k : Kind} (hk : k = .record \/ k = .recur) (hs : SimT .EXPR lv sub) (he : Ends ts)
    (hok : ∀ e ts' pv', fieldsOf k sub ts = .ok (e, ts') -> Ends ts' -> ts'.length < ts.length -> good e = true -> Run Q E ⟨ts', pv', lv, W, B ++ [e], G⟩)
    (hx : ∀ y, fieldsOf k sub ts = .error y -> E y) : Run Q E ⟨ts, pv, lv, .a .begin :: .p .BINDS :: .t sUnbrace :: .a (.fin k) :: W, B, G⟩ := by
  have ev : fieldsOf k sub ts = (binds sub (ts.length + 1) [] ts).bind fun l => (expect sUnbrace l.2).bind fun u => .ok (.node k (l.1.map fun x => x.1) (l.1.map fun x => x.2), u.2) := rfl
  rw [ev] at hok hx
  refine run_begin (binds_all hs (ts.length + 1) [] ⟨B.length, [], []⟩ ts pv _ B G he (Nat.lt_succ_self _) (fun x => by simp) (fun z => absurd rfl z) (fun l ts1 pv1 ns el he1 hl1 gl _ => ?_) fun z ez => hx z (by rw [ez]; rfl))
  rw [el] at hok hx
  refine run_x he1 rfl (fun m e2 he2 hl2 => run_fin (hok _ _ _ (by show (expect sUnbrace ts1).bind _ = _; rw [e2]; rfl) he2 (by omega) ?_)) fun e2 => hx _ (by show (expect sUnbrace ts1).bind _ = _; rw [e2]; rfl)
  rcases hk with rfl | rfl <;> simp [good, gl]
end
end RM
end
section
set_option autoImplicit false
namespace RM
open Vastoa
section
variable {lv : Nat} {sub : Read Tree}
theorem sim_atom (hs : SimT .EXPR lv sub) : SimT .ATOM lv (atom sub) := by
  intro Q E ts pv W B G he hok hx
  refine run_p he ?_
  simp only [choice]
  by_cases e1 : kd (next ts) = tName
  · rw [if_pos e1]
    obtain ⟨x, ex⟩ := kd_name.mp e1
    refine run_tk he (by intro z; cases z) e1 fun m em _ he1 hl1 => run_begin (run_label (run_fin0 (hok _ _ _ ?_ he1 hl1 rfl)))
    have eh : held m.tok = x := by rw [em, ex]; rfl
    rw [eh]
    unfold atom; rw [ex]; rfl
  rw [if_neg e1]
  by_cases e2 : kd (next ts) = tNum
  · rw [if_pos e2]
    obtain ⟨x, ex⟩ := kd_num.mp e2
    refine run_tk he (by intro z; cases z) e2 fun m em _ he1 hl1 => run_begin (run_label (run_fin0 (hok _ _ _ ?_ he1 hl1 rfl)))
    have eh : held m.tok = x := by rw [em, ex]; rfl
    rw [eh]
    unfold atom; rw [ex]; rfl
  rw [if_neg e2]
  by_cases e3 : kd (next ts) = .word wTrue
  · rw [if_pos e3]
    have ex := (kd_bare (k := .word wTrue) rfl).mp e3
    refine run_tk he (by intro z; cases z) e3 fun m em _ he1 hl1 => run_begin (run_fin0 (hok _ _ _ ?_ he1 hl1 rfl))
    unfold atom; rw [ex]; rfl
  rw [if_neg e3]
  by_cases e4 : kd (next ts) = .word wFalse
  · rw [if_pos e4]
    have ex := (kd_bare (k := .word wFalse) rfl).mp e4
    refine run_tk he (by intro z; cases z) e4 fun m em _ he1 hl1 => run_begin (run_fin0 (hok _ _ _ ?_ he1 hl1 rfl))
    unfold atom; rw [ex]; rfl
  rw [if_neg e4]
  by_cases e5 : kd (next ts) = .word wNone
  · rw [if_pos e5]
    have ex := (kd_bare (k := .word wNone) rfl).mp e5
    refine run_tk he (by intro z; cases z) e5 fun m em _ he1 hl1 => run_begin (run_fin0 (hok _ _ _ ?_ he1 hl1 rfl))
    unfold atom; rw [ex]; rfl
  rw [if_neg e5]
  by_cases e6 : kd (next ts) = .quote
  · rw [if_pos e6]
    have ex := (kd_bare (k := .quote) rfl).mp e6
    have ev : atom sub ts = also (fun l => .node .text [] l) (pieces sub ((ts.drop 1).length + 1) (ts.drop 1)) := by unfold atom; rw [ex]
    rw [ev] at hok hx
    refine run_tk he (by intro z; cases z) e6 fun m em _ he1 hl1 => run_begin ?_
    refine sim_pieces hs _ _ _ _ _ _ he1 (Nat.lt_succ_self _) (fun l ts2 pv2 el he2 hl2 gl => run_fin (hok _ _ _ (by rw [el]; rfl) he2 (by omega) (by simp [good, gl]))) fun z ez => hx z (by rw [ez]; rfl)
  rw [if_neg e6]
  by_cases e7 : kd (next ts) = .sign [40]
  · rw [if_pos e7]
    have ex := (kd_bare (k := .sign [40]) rfl).mp e7
    have ev : atom sub ts = closedBy sClose sub (ts.drop 1) := by unfold atom; rw [ex]; rfl
    rw [ev] at hok hx
    refine run_tk he (by intro z; cases z) e7 fun m em _ he1 hl1 => ?_
    exact run_closed hs he1 rfl (fun a ts2 pv2 ea he2 hl2 ga => hok _ _ _ ea he2 (by omega) ga) hx
  rw [if_neg e7]
  by_cases e8 : kd (next ts) = .sign [91]
  · rw [if_pos e8]
    have ex := (kd_bare (k := .sign [91]) rfl).mp e8
    have ev : atom sub ts = if next (ts.drop 1) = sListClose then .ok (.node .list [] [], (ts.drop 1).drop 1) else also (fun l => .node .list [] l) (elements sub ((ts.drop 1).length + 1) (ts.drop 1)) := by unfold atom; rw [ex]; rfl
    rw [ev] at hok hx
    refine run_tk he (by intro z; cases z) e8 fun m em _ he1 hl1 => run_begin (run_p he1 ?_)
    simp only [choice]
    by_cases e9 : next (ts.drop 1) = sListClose
    · rw [if_pos ((kd_bare (k := sListClose) rfl).mpr e9)]
      rw [if_pos e9] at hok
      refine run_tk he1 (by intro z; cases z) ((kd_bare (k := sListClose) rfl).mpr e9) fun m2 _ _ he2 hl2 => run_fin0 (hok _ _ _ rfl he2 (by omega) rfl)
    · rw [if_neg fun z => e9 ((kd_bare (k := sListClose) rfl).mp z)]
      rw [if_neg e9] at hok hx
      exact sim_elems hs _ _ _ _ _ _ he1 (Nat.lt_succ_self _) (fun l ts2 pv2 el he2 hl2 gl => run_fin (hok _ _ _ (by rw [el]; rfl) he2 (by omega) (by simp [good, gl]))) fun z ez => hx z (by rw [ez]; rfl)
  rw [if_neg e8]
  by_cases e9 : kd (next ts) = sBrace
  · rw [if_pos e9]
    have ex := (kd_bare (k := sBrace) rfl).mp e9
    have ev : atom sub ts = fieldsOf .record sub (ts.drop 1) := by unfold atom; rw [ex]; rfl
    rw [ev] at hok hx
    refine run_tk he (by intro z; cases z) e9 fun m em _ he1 hl1 => ?_
    exact run_fields (.inl rfl) hs he1 (fun a ts2 pv2 ea he2 hl2 ga => hok _ _ _ ea he2 (by omega) ga) hx
  rw [if_neg e9]
  refine run_t he (by intro z; cases z) (fun m e em _ he1 hl1 => ?_) fun e => hx _ ?_
  · have ex := (kd_bare (k := .word wRec) rfl).mp e
    have ev : atom sub ts = (expect sBrace (ts.drop 1)).bind fun u => fieldsOf .recur sub u.2 := by unfold atom; rw [ex]; rfl
    rw [ev] at hok hx
    refine run_x he1 rfl (fun m2 e3 he2 hl2 => ?_) fun e3 => hx _ (by rw [e3]; rfl)
    rw [e3] at hok hx
    exact run_fields (.inr rfl) hs he2 (fun a ts2 pv2 ea he2 hl2 ga => hok _ _ _ ea he2 (by omega) ga) hx
  · unfold atom
    cases ex : next ts with
    | name x => rw [ex] at e1; exact absurd rfl e1
    | num x => rw [ex] at e2; exact absurd rfl e2
    | quote => rw [ex] at e6; exact absurd rfl e6
    | word x =>
      rw [ex] at e3 e4 e5 e
      show (if x = wTrue then _ else if x = wFalse then _ else if x = wNone then _ else if x = wRec then _ else _) = _
      rw [if_neg (by rintro rfl; exact e3 rfl), if_neg (by rintro rfl; exact e4 rfl), if_neg (by rintro rfl; exact e5 rfl), if_neg (by rintro rfl; exact e rfl)]
      rfl
    | sign x =>
      rw [ex] at e7 e8 e9
      show (if x = [40] then _ else if x = [91] then _ else if x = [123] then _ else _) = _
      rw [if_neg (by rintro rfl; exact e7 rfl), if_neg (by rintro rfl; exact e8 rfl), if_neg (by rintro rfl; exact e9 rfl)]
      rfl
    | _ => rfl
theorem sim_mdots {Q : MS -> Prop} {E : Fault -> Prop} : ∀ (n : Nat) (g : Bg) (ts : Marks) (pv : Mark) (W : List Sym) (B : List Tree) (G : List Bg), Ends ts -> ts.length < n ->
    (∀ l ts' pv', path n ts = .ok (l, ts') -> Ends ts' -> ts'.length <= ts.length -> Run Q E ⟨ts', pv', lv, W, B, ⟨g.first, g.labels ++ l, g.names⟩ :: G⟩) ->
    (∀ y, path n ts = .error y -> E y) -> Run Q E ⟨ts, pv, lv, .p .MDOTS :: W, B, g :: G⟩ := by
  intro n
  induction n with
  | zero => intro g ts pv W B G _ h; exact absurd h (Nat.not_lt_zero _)
  | succ n ih =>
    intro g ts pv W B G he hn hok hx
    refine run_p he ?_
    simp only [choice]
    by_cases e1 : next ts = sDot
    · rw [if_pos ((kd_bare (k := sDot) rfl).mpr e1)]
      have ev : path (n + 1) ts = (nameTok (ts.drop 1)).bind fun x => also (fun l => x.1 :: l) (path n x.2) := by
        show (if next ts = sDot then _ else _) = _
        rw [if_pos e1]
      rw [ev] at hok hx
      refine run_tk he (by intro z; cases z) ((kd_bare (k := sDot) rfl).mpr e1) fun m em _ he1 hl1 => ?_
      refine run_name he1 (fun m2 x ex em2 _ he2 hl2 => ?_) fun hno => hx _ (by rw [nameTok_no hno]; rfl)
      rw [nameTok_ok ex] at hok hx
      refine run_label ?_
      have eh : held m2.tok = x := by rw [em2]; rfl
      rw [eh]
      refine ih _ _ _ _ _ _ he2 (by omega) (fun l ts3 pv3 el he3 hl3 => ?_) fun z ez => hx z (by show also _ (path n ((ts.drop 1).drop 1)) = _; rw [ez]; rfl)
      have := hok (x :: l) ts3 pv3 (by show also _ (path n ((ts.drop 1).drop 1)) = _; rw [el]; rfl) he3 (by omega)
      simp only [List.append_assoc, List.singleton_append] at this ⊢
      exact this
    · rw [if_neg fun z => e1 ((kd_bare (k := sDot) rfl).mp z)]
      have ev : path (n + 1) ts = .ok ([], ts) := by
        show (if next ts = sDot then _ else _) = _
        rw [if_neg e1]
      have := hok [] ts pv ev he (Nat.le_refl _)
      rw [List.append_nil] at this
      exact this
theorem sim_sel (hs : SimT .EXPR lv sub) : SimT .SEL lv (sel sub) := by
  intro Q E ts pv W B G he hok hx
  refine run_p he ?_
  simp only [choice]
  have ev : sel sub ts = (atom sub ts).bind fun a => (path (a.2.length + 1) a.2).bind fun p =>
    if p.1.isEmpty then .ok (a.1, p.2) else if next p.2 = sAsk then also (fun d => .node .get p.1 [a.1, d]) (atom sub (p.2.drop 1)) else .ok (.node .get p.1 [a.1], p.2) := rfl
  rw [ev] at hok hx
  refine sim_atom hs _ _ _ _ _ _ _ he (fun a ts1 pv1 ea he1 hl1 ga => ?_) fun z ez => hx z (by rw [ez]; rfl)
  rw [ea] at hok hx
  replace hok : ∀ e ts' pv', ((path (ts1.length + 1) ts1).bind fun p =>
    if p.1.isEmpty then .ok (a, p.2) else if next p.2 = sAsk then also (fun d => .node .get p.1 [a, d]) (atom sub (p.2.drop 1)) else .ok (.node .get p.1 [a], p.2)) = .ok (e, ts') -> Ends ts' -> ts'.length < ts.length -> good e = true -> Run Q E ⟨ts', pv', lv, W, B ++ [e], G⟩ := hok
  replace hx : ∀ y, ((path (ts1.length + 1) ts1).bind fun p =>
    if p.1.isEmpty then .ok (a, p.2) else if next p.2 = sAsk then also (fun d => .node .get p.1 [a, d]) (atom sub (p.2.drop 1)) else .ok (.node .get p.1 [a], p.2)) = .error y -> E y := hx
  refine run_p he1 ?_
  simp only [choice]
  by_cases e1 : next ts1 = sDot
  · rw [if_pos ((kd_bare (k := sDot) rfl).mpr e1)]
    have ev1 : path (ts1.length + 1) ts1 = (nameTok (ts1.drop 1)).bind fun x => also (fun l => x.1 :: l) (path ts1.length x.2) := by
      show (if next ts1 = sDot then _ else _) = _
      rw [if_pos e1]
    rw [ev1] at hok hx
    refine run_tk he1 (by intro z; cases z) ((kd_bare (k := sDot) rfl).mpr e1) fun m em _ he2 hl2 => run_take ?_
    refine run_name he2 (fun m2 x ex em2 _ he3 hl3 => ?_) fun hno => hx _ (by rw [nameTok_no hno]; rfl)
    rw [nameTok_ok ex] at hok hx
    refine run_label ?_
    have eh : held m2.tok = x := by rw [em2]; rfl
    rw [eh]
    refine sim_mdots ts1.length _ _ _ _ _ _ he3 (by omega) (fun l ts4 pv4 el he4 hl4 => ?_) fun z ez => hx z (by show (also _ (path ts1.length ((ts1.drop 1).drop 1))).bind _ = _; rw [ez]; rfl)
    have ev2 : ((Except.ok (x, (ts1.drop 1).drop 1) : Except Fault (Text × Marks)).bind fun x => also (fun l => x.1 :: l) (path ts1.length x.2)) = .ok (x :: l, ts4) := by
      show also _ (path ts1.length ((ts1.drop 1).drop 1)) = _
      rw [el]; rfl
    rw [ev2] at hok hx
    replace hok : ∀ e ts' pv', (if next ts4 = sAsk then also (fun d => .node .get (x :: l) [a, d]) (atom sub (ts4.drop 1)) else .ok (.node .get (x :: l) [a], ts4)) = .ok (e, ts') -> Ends ts' -> ts'.length < ts.length -> good e = true -> Run Q E ⟨ts', pv', lv, W, B ++ [e], G⟩ := hok
    replace hx : ∀ y, (if next ts4 = sAsk then also (fun d => .node .get (x :: l) [a, d]) (atom sub (ts4.drop 1)) else (.ok (.node .get (x :: l) [a], ts4) : Except Fault (Tree × Marks))) = .error y -> E y := hx
    refine run_p he4 ?_
    simp only [choice]
    by_cases e2 : next ts4 = sAsk
    · rw [if_pos ((kd_bare (k := sAsk) rfl).mpr e2)]
      rw [if_pos e2] at hok hx
      refine run_tk he4 (by intro z; cases z) ((kd_bare (k := sAsk) rfl).mpr e2) fun m5 _ _ he5 hl5 => ?_
      refine sim_atom hs _ _ _ _ _ _ _ he5 (fun d ts6 pv6 ed he6 hl6 gd => ?_) fun z ez => hx z (by rw [ez]; rfl)
      have e3 : B ++ [a] ++ [d] = B ++ [a, d] := by simp
      rw [e3]
      exact run_fin (hok _ _ _ (by rw [ed]; rfl) he6 (by omega) (by simp [good, goodsOf, ga, gd]))
    · rw [if_neg fun z => e2 ((kd_bare (k := sAsk) rfl).mp z)]
      rw [if_neg e2] at hok
      exact run_fin (l := [a]) (hok _ _ _ rfl he4 (by omega) (by simp [good, goodsOf, ga]))
  · rw [if_neg fun z => e1 ((kd_bare (k := sDot) rfl).mp z)]
    have ev1 : path (ts1.length + 1) ts1 = .ok ([], ts1) := by
      show (if next ts1 = sDot then _ else _) = _
      rw [if_neg e1]
    rw [ev1] at hok
    exact hok a ts1 pv1 rfl he1 hl1 ga
theorem sim_args (hs : SimT .EXPR lv sub) : SimM .ARGS lv (arguments sub) := by
  intro n
  induction n with
  | zero => intro Q E a ts pv W B G _ h; exact absurd h (Nat.not_lt_zero _)
  | succ n ih =>
    intro Q E a ts pv W B G he hn ga hok hx
    refine run_p he ?_
    simp only [choice, begins_kd]
    by_cases e1 : begins (next ts) = true
    · rw [if_pos e1]
      have ev : arguments sub (n + 1) a ts = (sel sub ts).bind fun x => arguments sub n (.node .app [] [a, x.1]) x.2 := by
        show (if begins (next ts) = true then _ else _) = _
        rw [if_pos e1]
      rw [ev] at hok hx
      refine run_p he (run_take (sim_sel hs _ _ _ _ _ _ _ he (fun b ts2 pv2 eb he2 hl2 gb => ?_) fun z ez => hx z (by rw [ez]; rfl)))
      rw [eb] at hok hx
      have e3 : B ++ [a] ++ [b] = B ++ [a, b] := by simp
      rw [e3]
      exact run_fin (ih _ _ _ _ _ _ _ _ he2 (by omega) (by simp [good, goodsOf, ga, gb]) (fun e ts' pv' h1 h2 h3 h4 => hok e ts' pv' h1 h2 (by omega) h4) hx)
    · rw [if_neg e1]
      refine hok a ts pv ?_ he (Nat.le_refl _) ga
      show (if begins (next ts) = true then _ else _) = _
      rw [if_neg e1]
theorem sim_app (hs : SimT .EXPR lv sub) : SimT .APP lv (app sub) := by
  intro Q E ts pv W B G he hok hx
  refine run_p he ?_
  simp only [choice]
  have ev : app sub ts = (sel sub ts).bind fun f => arguments sub (f.2.length + 1) f.1 f.2 := rfl
  rw [ev] at hok hx
  refine sim_sel hs _ _ _ _ _ _ _ he (fun a ts1 pv1 ea he1 hl1 ga => ?_) fun z ez => hx z (by rw [ez]; rfl)
  rw [ea] at hok hx
  exact sim_args hs _ _ _ _ _ _ _ _ _ he1 (Nat.lt_succ_self _) ga (fun e ts' pv' h1 h2 h3 h4 => hok e ts' pv' h1 h2 (by omega) h4) hx
theorem sim_neg (hs : SimT .EXPR lv sub) : SimT .NEG lv (neg sub) := sim_prefixed (sim_app hs) rfl (fun e h => by simp [good, goodsOf, h]) fun _ => rfl
theorem sim_prod (hs : SimT .EXPR lv sub) : SimT .PROD lv (prod sub) :=
  sim_left (w := .MPROD) (sim_neg hs) (sim_more (sim_neg hs) (by simp [bareTok]) fun k => by
    by_cases h : k = .sign [42]
    · subst h; rfl
    · have h' : ¬ Tok.sign [42] = k := fun z => h z.symm
      simp [choice, h, h']) fun _ => rfl
theorem sim_sum (hs : SimT .EXPR lv sub) : SimT .SUM lv (sum sub) :=
  sim_left (w := .MSUM) (sim_prod hs) (sim_more (sim_prod hs) (by simp [bareTok]) fun k => by
    by_cases h : k = .sign [43]
    · subst h; rfl
    · have h' : ¬ Tok.sign [43] = k := fun z => h z.symm
      by_cases q : k = sMinus
      · subst q; rfl
      · have q' : ¬ Tok.sign [45] = k := fun z => q z.symm
        simp [choice, h, h', q, q']) fun _ => rfl
theorem sim_join (hs : SimT .EXPR lv sub) : SimT .JOIN lv (join sub) := sim_right (w := .MJOIN) (sim_sum hs) rfl (fun _ => rfl) fun _ => rfl
theorem sim_upd (hs : SimT .EXPR lv sub) : SimT .UPD lv (upd sub) := sim_right (w := .MUPD) (sim_join hs) rfl (fun _ => rfl) fun _ => rfl
def cmpRest (sub : Read Tree) (a : Tree) (ts1 : Marks) : Except Fault (Tree × Marks) := match compared.find? fun p => p.1 = next ts1 with
  | some p => also (fun b => .node (.op p.2) [] [a, b]) (upd sub (ts1.drop 1))
  | none => if next ts1 = .word wHas then also (fun x => .node .has [x] [a]) (nameTok (ts1.drop 1)) else .ok (a, ts1)
theorem sim_cmp (hs : SimT .EXPR lv sub) : SimT .CMP lv (cmp sub) := by
  intro Q E ts pv W B G he hok hx
  refine run_p he ?_
  simp only [choice]
  have ev : cmp sub ts = (upd sub ts).bind fun a => match compared.find? fun p => p.1 = next a.2 with
    | some p => also (fun b => .node (.op p.2) [] [a.1, b]) (upd sub (a.2.drop 1))
    | none => if next a.2 = .word wHas then also (fun x => .node .has [x] [a.1]) (nameTok (a.2.drop 1)) else .ok a := rfl
  rw [ev] at hok hx
  refine sim_upd hs _ _ _ _ _ _ _ he (fun a ts1 pv1 ea he1 hl1 ga => ?_) fun z ez => hx z (by rw [ez]; rfl)
  rw [ea] at hok hx
  refine run_p he1 ?_
  have hch : choice .MCMP (kd (next ts1)) = match compared.find? fun p => decide (p.1 = next ts1) with
      | some p => [.t p.1, .a .take, .p .UPD, .a (.fin (.op p.2))]
      | none => if next ts1 = .word wHas then [.t (.word wHas), .a .take, .t tName, .a .label, .a (.fin .has)] else [] := by
    rw [<- find_kd compared (by simp [compared, bareTok]) (next ts1)]
    have eh : (next ts1 = .word wHas) = (kd (next ts1) = .word wHas) := propext (kd_bare (k := .word wHas) rfl).symm
    simp only [eh]
    generalize kd (next ts1) = k
    by_cases h1 : k = .sign [61, 61]
    · subst h1; rfl
    by_cases h2 : k = .sign [33, 61]
    · subst h2; rfl
    by_cases h3 : k = .sign [60]
    · subst h3; rfl
    by_cases h4 : k = .sign [60, 61]
    · subst h4; rfl
    have h1' : ¬ Tok.sign [61, 61] = k := fun z => h1 z.symm
    have h2' : ¬ Tok.sign [33, 61] = k := fun z => h2 z.symm
    have h3' : ¬ Tok.sign [60] = k := fun z => h3 z.symm
    have h4' : ¬ Tok.sign [60, 61] = k := fun z => h4 z.symm
    simp [choice, compared, h1, h2, h3, h4, h1', h2', h3', h4']
  rw [hch]
  replace hok : ∀ e ts' pv', cmpRest sub a ts1 = .ok (e, ts') -> Ends ts' -> ts'.length < ts.length -> good e = true -> Run Q E ⟨ts', pv', lv, W, B ++ [e], G⟩ := hok
  replace hx : ∀ y, cmpRest sub a ts1 = .error y -> E y := hx
  unfold cmpRest at hok hx
  cases ef : compared.find? fun p => decide (p.1 = next ts1) with
  | some p =>
    rw [ef] at hok hx
    have hp : bareTok p.1 = true := (show ∀ q ∈ compared, bareTok q.1 = true by simp [compared, bareTok]) p (List.mem_of_find?_eq_some ef)
    have e1 : p.1 = next ts1 := of_decide_eq_true (List.find?_some (p := fun p : Tok × Op => decide (p.1 = next ts1)) ef)
    refine run_tk he1 (bare_ne_fin hp) ((kd_bare hp).mpr e1.symm) fun m _ _ he2 hl2 => run_take ?_
    refine sim_upd hs _ _ _ _ _ _ _ he2 (fun b ts3 pv3 eb he3 hl3 gb => ?_) fun z ez => hx z (by show also _ (upd sub (ts1.drop 1)) = _; rw [ez]; rfl)
    have e3 : B ++ [a] ++ [b] = B ++ [a, b] := by simp
    rw [e3]
    exact run_fin (hok _ _ _ (by show also _ (upd sub (ts1.drop 1)) = _; rw [eb]; rfl) he3 (by omega) (by simp [good, goodsOf, ga, gb]))
  | none =>
    rw [ef] at hok hx
    by_cases e1 : next ts1 = .word wHas
    · rw [if_pos e1] at hok hx
      show Run Q E ⟨ts1, pv1, lv, (if next ts1 = .word wHas then [.t (.word wHas), .a .take, .t tName, .a .label, .a (.fin .has)] else []) ++ W, B ++ [a], G⟩
      rw [if_pos e1]
      refine run_tk he1 (by intro z; cases z) ((kd_bare (k := .word wHas) rfl).mpr e1) fun m _ _ he2 hl2 => run_take ?_
      refine run_name he2 (fun m2 x ex em2 _ he3 hl3 => ?_) fun hno => hx _ (by rw [nameTok_no hno]; rfl)
      refine run_label ?_
      have eh : held m2.tok = x := by rw [em2]; rfl
      rw [eh]
      exact run_fin (l := [a]) (hok _ _ _ (by rw [nameTok_ok ex]; rfl) he3 (by omega) (by simp [good, goodsOf, ga]))
    · rw [if_neg e1] at hok
      show Run Q E ⟨ts1, pv1, lv, (if next ts1 = .word wHas then [.t (.word wHas), .a .take, .t tName, .a .label, .a (.fin .has)] else []) ++ W, B ++ [a], G⟩
      rw [if_neg e1]
      exact hok a ts1 pv1 rfl he1 hl1 ga
theorem sim_nots (hs : SimT .EXPR lv sub) : SimT .NOT lv (nots sub) := sim_prefixed (sim_cmp hs) rfl (fun e h => by simp [good, goodsOf, h]) fun _ => rfl
theorem sim_ands (hs : SimT .EXPR lv sub) : SimT .AND lv (ands sub) :=
  sim_left (w := .MAND) (sim_nots hs) (sim_more (sim_nots hs) (by simp [bareTok]) fun k => by
    by_cases h : k = .word wAnd
    · subst h; rfl
    · have h' : ¬ Tok.word wAnd = k := fun z => h z.symm
      simp [choice, h, h']) fun _ => rfl
theorem sim_ors (hs : SimT .EXPR lv sub) : SimT .OR lv (ors sub) :=
  sim_left (w := .MOR) (sim_ands hs) (sim_more (sim_ands hs) (by simp [bareTok]) fun k => by
    by_cases h : k = .word wOr
    · subst h; rfl
    · have h' : ¬ Tok.word wOr = k := fun z => h z.symm
      simp [choice, h, h']) fun _ => rfl
end
end RM
end
section
set_option autoImplicit false
namespace RM
open Vastoa
theorem bind_ok {A B : Type} (x : A) (f : A -> Except Fault B) : (Except.ok x : Except Fault A).bind f = f x := rfl
section
variable {lv : Nat} {sub : Read Tree}
def given (sub : Read Tree) (ts : Marks) : Except Fault (List Tree × Marks) := if next (ts.drop 1) = sAsk then also (fun e => [e]) (sub (ts.drop 2)) else .ok ([], ts.drop 1)
def paramsRest (sub : Read Tree) (n : Nat) (seen : List Text) (x : Text) (d : List Tree × Marks) : Except Fault ((List Tree × Bool) × Marks) :=
  if next d.2 = sComma then also (fun l => (.node .param [x] d.1 :: l.1, l.2)) (params sub n (x :: seen) (d.2.drop 1))
  else (expect sUnbrace d.2).bind fun u => .ok (([.node .param [x] d.1], false), u.2)
theorem params_name {n : Nat} {seen : List Text} {ts : Marks} {x : Text} (ex : next ts = .name x) :
    params sub (n + 1) seen ts = if seen.contains x then .error ⟨5, here ts⟩ else (given sub ts).bind (paramsRest sub n seen x) := by
  show (match next ts with | .name x => _ | .sign s => _ | _ => _) = _
  rw [ex]
  rfl
theorem drop_two {ts : Marks} : (ts.drop 1).drop 1 = ts.drop 2 := by rw [List.drop_drop]
theorem sim_params {Q : MS -> Prop} {E : Fault -> Prop} (hs : SimT .EXPR lv sub) : ∀ (n : Nat) (seen : List Text) (g : Bg) (ts : Marks) (pv : Mark) (W : List Sym) (B : List Tree) (G : List Bg), Ends ts -> ts.length < n -> Met g seen ->
    (∀ l dots ts' pv' ns, params sub n seen ts = .ok ((l, dots), ts') -> Ends ts' -> ts'.length < ts.length -> goodsOf l = true ->
      Run Q E ⟨ts', pv', lv, .t sColon :: .p .EXPR :: .a (.fin (if dots then .openFields else .fields)) :: W, B ++ l, ⟨g.first, g.labels, ns⟩ :: G⟩) ->
    (∀ y, params sub n seen ts = .error y -> E y) -> Run Q E ⟨ts, pv, lv, .p .PARAMS :: W, B, g :: G⟩ := by
  intro n
  induction n with
  | zero => intro seen g ts pv W B G _ h; exact absurd h (Nat.not_lt_zero _)
  | succ n ih =>
    intro seen g ts pv W B G he hn hm hok hx
    refine run_p he ?_
    simp only [choice]
    by_cases e1 : kd (next ts) = sDots
    · rw [if_pos e1]
      have ex := (kd_bare (k := sDots) rfl).mp e1
      have ev : params sub (n + 1) seen ts = (expect sUnbrace (ts.drop 1)).bind fun u => .ok (([], true), u.2) := by
        show (match next ts with | .name x => _ | .sign s => _ | _ => _) = _
        rw [ex]; rfl
      rw [ev] at hok hx
      refine run_tk he (by intro z; cases z) e1 fun m _ _ he1 hl1 => ?_
      refine run_x he1 rfl (fun m2 e2 he2 hl2 => ?_) fun e2 => hx _ (by rw [e2]; rfl)
      have := hok [] true _ m2 g.names (by rw [e2]; rfl) he2 (by omega) rfl
      rw [List.append_nil] at this
      exact this
    · rw [if_neg e1]
      refine run_name he (fun m x ex em ep he1 hl1 => ?_) fun hno => hx _ ?_
      · rw [params_name ex] at hok hx
        have eh : held m.tok = x := by rw [em]; rfl
        refine run_fresh (fun hn1 => ?_) fun hn1 => ?_
        · rw [eh] at hn1 ⊢
          have hns : ¬ seen.contains x = true := fun z => hn1 ((hm x).mpr z)
          rw [if_neg hns] at hok hx
          refine run_begin (run_label ?_)
          rw [eh]
          have rest : ∀ (d : List Tree) (ts2 : Marks) (pv2 : Mark), given sub ts = .ok (d, ts2) -> Ends ts2 -> ts2.length < ts.length -> goodsOf d = true -> d.length <= 1 ->
              Run Q E ⟨ts2, pv2, lv, .a (.fin .param) :: .p .MPARAMS :: W, B ++ d, ⟨B.length, [] ++ [x], []⟩ :: ⟨g.first, g.labels, g.names ++ [x]⟩ :: G⟩ := by
            intro d ts2 pv2 ed he2 hl2 gd ld
            rw [ed] at hok hx
            replace hok : ∀ l dots ts' pv' ns, paramsRest sub n seen x (d, ts2) = .ok ((l, dots), ts') -> Ends ts' -> ts'.length < ts.length -> goodsOf l = true ->
              Run Q E ⟨ts', pv', lv, .t sColon :: .p .EXPR :: .a (.fin (if dots then .openFields else .fields)) :: W, B ++ l, ⟨g.first, g.labels, ns⟩ :: G⟩ := hok
            replace hx : ∀ y, paramsRest sub n seen x (d, ts2) = .error y -> E y := hx
            have gp : good (.node .param [x] d) = true := by
              match d, ld, gd with
              | [], _, _ => rfl
              | [a], _, ga => simp [goodsOf] at ga; simp [good, goodsOf, ga]
            refine run_fin (run_p he2 ?_)
            simp only [choice]
            by_cases e3 : next ts2 = sComma
            · rw [if_pos ((kd_bare (k := sComma) rfl).mpr e3)]
              have ev : paramsRest sub n seen x (d, ts2) = also (fun l => (.node .param [x] d :: l.1, l.2)) (params sub n (x :: seen) (ts2.drop 1)) := by
                show (if next ts2 = sComma then _ else _) = _
                rw [if_pos e3]
              rw [ev] at hok hx
              refine run_tk he2 (by intro z; cases z) ((kd_bare (k := sComma) rfl).mpr e3) fun m3 _ _ he3 hl3 => ?_
              refine ih (x :: seen) _ _ _ _ _ _ he3 (by omega) (hm.more _ _) (fun l dots ts4 pv4 ns el he4 hl4 gl => ?_) fun z ez => hx z (by rw [ez]; rfl)
              have := hok (.node .param [x] d :: l) dots ts4 pv4 ns (by rw [el]; rfl) he4 (by omega) (by simp [goodsOf, gp, gl])
              rw [List.append_assoc]
              exact this
            · rw [if_neg fun z => e3 ((kd_bare (k := sComma) rfl).mp z)]
              have ev : paramsRest sub n seen x (d, ts2) = (expect sUnbrace ts2).bind fun u => .ok (([.node .param [x] d], false), u.2) := by
                show (if next ts2 = sComma then _ else _) = _
                rw [if_neg e3]
              rw [ev] at hok hx
              refine run_x he2 rfl (fun m3 e4 he3 hl3 => ?_) fun e4 => hx _ (by rw [e4]; rfl)
              exact hok [.node .param [x] d] false _ m3 _ (by rw [e4]; rfl) he3 (by omega) (by simp [goodsOf, gp])
          refine run_p he1 ?_
          simp only [choice]
          by_cases e2 : next (ts.drop 1) = sAsk
          · rw [if_pos ((kd_bare (k := sAsk) rfl).mpr e2)]
            have ev : given sub ts = also (fun e => [e]) (sub (ts.drop 2)) := by unfold given; rw [if_pos e2]
            refine run_tk he1 (by intro z; cases z) ((kd_bare (k := sAsk) rfl).mpr e2) fun m3 _ _ he3 hl3 => ?_
            refine hs _ _ _ _ _ _ _ he3 (fun a ts4 pv4 ea he4 hl4 ga => ?_) fun z ez => hx z ?_
            · exact rest [a] ts4 pv4 (by rw [ev, <- drop_two, ea]; rfl) he4 (by omega) (by simp [goodsOf, ga]) (Nat.le_refl 1)
            · rw [ev, <- drop_two, ez]; rfl
          · rw [if_neg fun z => e2 ((kd_bare (k := sAsk) rfl).mp z)]
            have := rest [] (ts.drop 1) m (by unfold given; rw [if_neg e2]) he1 hl1 rfl (Nat.zero_le _)
            rw [List.append_nil] at this
            exact this
        · rw [eh] at hn1
          rw [if_pos ((hm x).mp hn1)] at hx
          rw [ep]
          exact hx _ rfl
      · show (match next ts with | .name x => _ | .sign s => _ | _ => _) = _
        cases ex : next ts with
        | name x => exact absurd ex (hno x)
        | sign s =>
          rw [ex] at e1
          show (if s = [46, 46] then _ else _) = _
          rw [if_neg (by rintro rfl; exact e1 rfl)]
          rfl
        | _ => rfl
def bodyOf (sub : Read Tree) (p : (List Tree × Bool) × Marks) : Except Fault (Tree × Marks) :=
  (expect sColon p.2).bind fun v => also (fun e => .node (if p.1.2 then .openFields else .fields) [] (p.1.1 ++ [e])) (sub v.2)
theorem run_body {Q : MS -> Prop} {E : Fault -> Prop} {ts : Marks} {pv : Mark} {W : List Sym} {B : List Tree} {G : List Bg} {l : List Tree} {dots : Bool} {ns : List Text} (hs : SimT .EXPR lv sub) (he : Ends ts) (gl : goodsOf l = true)
    (hok : ∀ e ts' pv', bodyOf sub ((l, dots), ts) = .ok (e, ts') -> Ends ts' -> ts'.length < ts.length -> good e = true -> Run Q E ⟨ts', pv', lv, W, B ++ [e], G⟩)
    (hx : ∀ y, bodyOf sub ((l, dots), ts) = .error y -> E y) : Run Q E ⟨ts, pv, lv, .t sColon :: .p .EXPR :: .a (.fin (if dots then .openFields else .fields)) :: W, B ++ l, ⟨B.length, [], ns⟩ :: G⟩ := by
  have ev : bodyOf sub ((l, dots), ts) = (expect sColon ts).bind fun v => also (fun e => .node (if dots then .openFields else .fields) [] (l ++ [e])) (sub v.2) := rfl
  rw [ev] at hok hx
  refine run_x he rfl (fun m e1 he1 hl1 => ?_) fun e1 => hx _ (by rw [e1]; rfl)
  rw [e1] at hok hx
  refine hs _ _ _ _ _ _ _ he1 (fun a ts2 pv2 ea he2 hl2 ga => ?_) fun z ez => hx z (by rw [bind_ok]; dsimp only; rw [ez]; rfl)
  rw [List.append_assoc]
  refine run_fin (hok _ _ _ (by rw [bind_ok]; dsimp only; rw [ea]; rfl) he2 (by omega) ?_)
  have gg : goodsOf (l ++ [a]) = true := by rw [goodsOf_append, gl]; simp [goodsOf, ga]
  cases dots <;> simp [good, gg]
theorem sim_function (hs : SimT .EXPR lv sub) : SimT .FUNCTION lv (function sub) := by
  intro Q E ts pv W B G he hok hx
  refine run_p he ?_
  simp only [choice]
  by_cases e1 : kd (next ts) = tName
  · rw [if_pos e1]
    obtain ⟨x, ex⟩ := kd_name.mp e1
    have ev : function sub ts = (expect sColon (ts.drop 1)).bind fun u => also (fun e => .node .fn [x] [e]) (sub u.2) := by unfold function; rw [ex]
    rw [ev] at hok hx
    refine run_tk he (by intro z; cases z) e1 fun m em _ he1 hl1 => run_begin (run_label ?_)
    have eh : held m.tok = x := by rw [em, ex]; rfl
    rw [eh]
    refine run_x he1 rfl (fun m2 e2 he2 hl2 => ?_) fun e2 => hx _ (by rw [e2]; rfl)
    rw [e2] at hok hx
    refine hs _ _ _ _ _ _ _ he2 (fun a ts3 pv3 ea he3 hl3 ga => ?_) fun z ez => hx z (by rw [bind_ok]; dsimp only; rw [ez]; rfl)
    exact run_fin (l := [a]) (hok _ _ _ (by rw [bind_ok]; dsimp only; rw [ea]; rfl) he3 (by omega) (by simp [good, goodsOf, ga]))
  · rw [if_neg e1]
    have ev : function sub ts = (expect sBrace ts).bind fun u =>
      (if next u.2 = sUnbrace then .ok (([], false), u.2.drop 1) else params sub (u.2.length + 1) [] u.2).bind (bodyOf sub) := by
      unfold function
      cases ex : next ts with
      | name x => exact absurd ex (not_name e1 x)
      | _ => rfl
    rw [ev] at hok hx
    refine run_x he rfl (fun m e2 he1 hl1 => ?_) fun e2 => hx _ (by rw [e2]; rfl)
    rw [e2] at hok hx
    replace hok : ∀ e ts' pv', ((if next (ts.drop 1) = sUnbrace then .ok (([], false), (ts.drop 1).drop 1) else params sub ((ts.drop 1).length + 1) [] (ts.drop 1)).bind (bodyOf sub)) = .ok (e, ts') -> Ends ts' -> ts'.length < ts.length -> good e = true -> Run Q E ⟨ts', pv', lv, W, B ++ [e], G⟩ := hok
    replace hx : ∀ y, ((if next (ts.drop 1) = sUnbrace then .ok (([], false), (ts.drop 1).drop 1) else params sub ((ts.drop 1).length + 1) [] (ts.drop 1)).bind (bodyOf sub)) = .error y -> E y := hx
    refine run_begin (run_p he1 ?_)
    simp only [choice]
    by_cases e3 : next (ts.drop 1) = sUnbrace
    · rw [if_pos ((kd_bare (k := sUnbrace) rfl).mpr e3)]
      rw [if_pos e3] at hok hx
      refine run_tk he1 (by intro z; cases z) ((kd_bare (k := sUnbrace) rfl).mpr e3) fun m3 _ _ he3 hl3 => ?_
      have := run_body (Q := Q) (E := E) (B := B) (G := G) (W := W) (pv := m3) (l := []) (dots := false) (ns := []) hs he3 rfl (fun e ts' pv' h1 h2 h3 h4 => hok e ts' pv' h1 h2 (by omega) h4) hx
      rw [List.append_nil] at this
      exact this
    · rw [if_neg fun z => e3 ((kd_bare (k := sUnbrace) rfl).mp z)]
      rw [if_neg e3] at hok hx
      refine sim_params hs _ [] _ _ _ _ _ _ he1 (Nat.lt_succ_self _) (fun x => by simp) (fun l dots ts4 pv4 ns el he4 hl4 gl => ?_) fun z ez => hx z (by rw [ez]; rfl)
      rw [el] at hok hx
      exact run_body hs he4 gl (fun e ts' pv' h1 h2 h3 h4 => hok e ts' pv' h1 h2 (by omega) h4) hx
theorem sim_form (hs : SimT .EXPR lv sub) : SimT .FORM lv (expr sub) := by
  intro Q E ts pv W B G he hok hx
  refine run_p he ?_
  simp only [choice]
  by_cases e1 : kd (next ts) = .word wFn
  · rw [if_pos e1]
    have ex := (kd_bare (k := .word wFn) rfl).mp e1
    have ev : expr sub ts = function sub (ts.drop 1) := by unfold expr; rw [if_pos ex]
    rw [ev] at hok hx
    refine run_tk he (by intro z; cases z) e1 fun m _ _ he1 hl1 => ?_
    exact sim_function hs _ _ _ _ _ _ _ he1 (fun e ts' pv' h1 h2 h3 h4 => hok e ts' pv' h1 h2 (by omega) h4) hx
  rw [if_neg e1]
  have n1 : ¬ next ts = .word wFn := fun z => e1 ((kd_bare (k := .word wFn) rfl).mpr z)
  by_cases e2 : kd (next ts) = .word wLet
  · rw [if_pos e2]
    have ex := (kd_bare (k := .word wLet) rfl).mp e2
    have ev : expr sub ts = letRest sub (ts.drop 1) := by unfold expr; rw [if_neg n1, if_pos ex]
    rw [ev] at hok hx
    refine run_tk he (by intro z; cases z) e2 fun m _ _ he1 hl1 => run_begin ?_
    generalize hr : ts.drop 1 = r at he1 hl1 hok hx
    have ev2 : letRest sub r = (binds sub (r.length + 1) [] r).bind fun l =>
      if l.1.isEmpty then wrong l.2 else (expect (.word wIn) l.2).bind fun u => also (fun e => .node .letIn (l.1.map fun x => x.1) ((l.1.map fun x => x.2) ++ [e])) (sub u.2) := rfl
    rw [ev2] at hok hx
    by_cases e3 : ∃ x, next r = .name x
    · refine binds_one (n := r.length) hs (binds_all hs _) [] ⟨B.length, [], []⟩ r m (.t (.word wIn) :: .p .EXPR :: .a (.fin .letIn) :: W) B G he1 (Nat.lt_succ_self _) (fun x => by simp) (fun _ => e3) (fun l ts2 pv2 ns el he2 hl2 gl ne => ?_) fun z ez => hx z (by rw [ez]; rfl)
      rw [el] at hok hx
      have hne : ¬ l.isEmpty = true := fun z => ne (by intro q; cases q) (List.isEmpty_iff.mp z)
      replace hok : ∀ e ts' pv', (if l.isEmpty then wrong ts2 else (expect (.word wIn) ts2).bind fun u => also (fun e => .node .letIn (l.map fun x => x.1) ((l.map fun x => x.2) ++ [e])) (sub u.2)) = .ok (e, ts') -> Ends ts' -> ts'.length < ts.length -> good e = true -> Run Q E ⟨ts', pv', lv, W, B ++ [e], G⟩ := hok
      replace hx : ∀ y, (if l.isEmpty then wrong ts2 else (expect (.word wIn) ts2).bind fun u => also (fun e => Tree.node .letIn (l.map fun x => x.1) ((l.map fun x => x.2) ++ [e])) (sub u.2)) = .error y -> E y := hx
      rw [if_neg hne] at hok hx
      refine run_x he2 rfl (fun m3 e4 he3 hl3 => ?_) fun e4 => hx _ (by rw [e4]; rfl)
      rw [e4] at hok hx
      refine hs _ _ _ _ _ _ _ he3 (fun a ts4 pv4 ea he4 hl4 ga => ?_) fun z ez => hx z (by rw [bind_ok]; dsimp only; rw [ez]; rfl)
      rw [List.append_assoc]
      refine run_fin (hok _ _ _ (by rw [bind_ok]; dsimp only; rw [ea]; rfl) he4 (by omega) ?_)
      have gg : goodsOf ((l.map fun x => x.2) ++ [a]) = true := by rw [goodsOf_append, gl]; simp [goodsOf, ga]
      simp [good, gg]
    · have hno : ∀ x, next r ≠ .name x := fun x z => e3 ⟨x, z⟩
      refine run_name he1 (fun m2 x ex2 _ _ _ _ => absurd ex2 (hno x)) fun _ => hx _ ?_
      have ev3 : binds sub (r.length + 1) [] r = .ok ([], r) := by
        show (match next r with | .name x => _ | _ => _) = _
        cases ex2 : next r with
        | name x => exact absurd ex2 (hno x)
        | _ => rfl
      rw [ev3]
      rfl
  rw [if_neg e2]
  have n2 : ¬ next ts = .word wLet := fun z => e2 ((kd_bare (k := .word wLet) rfl).mpr z)
  by_cases e3 : kd (next ts) = .word wIf
  · rw [if_pos e3]
    have ex := (kd_bare (k := .word wIf) rfl).mp e3
    have ev : expr sub ts = (closedBy (.word wThen) sub (ts.drop 1)).bind fun a => (closedBy (.word wElse) sub a.2).bind fun b => also (fun c => .node .cond [] [a.1, b.1, c]) (sub b.2) := by
      unfold expr; rw [if_neg n1, if_neg n2, if_pos ex]
    rw [ev] at hok hx
    refine run_tk he (by intro z; cases z) e3 fun m _ _ he1 hl1 => run_begin ?_
    refine run_closed hs he1 rfl (fun a ts2 pv2 ea he2 hl2 ga => ?_) fun z ez => hx z (by rw [ez]; rfl)
    rw [ea] at hok hx
    refine run_closed hs he2 rfl (fun b ts3 pv3 eb he3 hl3 gb => ?_) fun z ez => hx z (by show (closedBy (.word wElse) sub ts2).bind _ = _; rw [ez]; rfl)
    refine hs _ _ _ _ _ _ _ he3 (fun c ts4 pv4 ec he4 hl4 gc => ?_) fun z ez => hx z ?_
    · have e4 : B ++ [a] ++ [b] ++ [c] = B ++ [a, b, c] := by simp
      rw [e4]
      refine run_fin (hok _ _ _ ?_ he4 (by omega) (by simp [good, goodsOf, ga, gb, gc]))
      show (closedBy (.word wElse) sub ts2).bind _ = _
      rw [eb]
      rw [bind_ok]; dsimp only
      rw [ec]; rfl
    · show (closedBy (.word wElse) sub ts2).bind _ = _
      rw [eb]
      rw [bind_ok]; dsimp only
      rw [ez]; rfl
  rw [if_neg e3]
  have n3 : ¬ next ts = .word wIf := fun z => e3 ((kd_bare (k := .word wIf) rfl).mpr z)
  by_cases e4 : kd (next ts) = .word wMust
  · rw [if_pos e4]
    have ex := (kd_bare (k := .word wMust) rfl).mp e4
    have ev : expr sub ts = (closedBy sSemi sub (ts.drop 1)).bind fun a => also (fun b => .node .must [] [a.1, b]) (sub a.2) := by
      unfold expr; rw [if_neg n1, if_neg n2, if_neg n3, if_pos ex]
    rw [ev] at hok hx
    refine run_tk he (by intro z; cases z) e4 fun m _ _ he1 hl1 => run_begin ?_
    refine run_closed hs he1 rfl (fun a ts2 pv2 ea he2 hl2 ga => ?_) fun z ez => hx z (by rw [ez]; rfl)
    rw [ea] at hok hx
    refine hs _ _ _ _ _ _ _ he2 (fun b ts3 pv3 eb he3 hl3 gb => ?_) fun z ez => hx z (by rw [bind_ok]; dsimp only; rw [ez]; rfl)
    have e5 : B ++ [a] ++ [b] = B ++ [a, b] := by simp
    rw [e5]
    exact run_fin (hok _ _ _ (by rw [bind_ok]; dsimp only; rw [eb]; rfl) he3 (by omega) (by simp [good, goodsOf, ga, gb]))
  rw [if_neg e4]
  have n4 : ¬ next ts = .word wMust := fun z => e4 ((kd_bare (k := .word wMust) rfl).mpr z)
  have ev : expr sub ts = ors sub ts := by unfold expr; rw [if_neg n1, if_neg n2, if_neg n3, if_neg n4]
  rw [ev] at hok hx
  exact sim_ors hs _ _ _ _ _ _ _ he hok hx
end
theorem sim_level : ∀ (n lv : Nat), lv + n = 40 -> SimT .EXPR lv (level n)
  | 0, lv, h => by
    intro Q E ts pv W B G he hok hx
    refine run_p he (run_enter he (fun z => absurd (by omega) z) fun _ => hx _ rfl)
  | n + 1, lv, h => by
    intro Q E ts pv W B G he hok hx
    have hs := sim_level n (lv + 1) (by omega)
    refine run_p he (run_enter he (fun _ => ?_) fun z => absurd z (by omega))
    have ev : level (n + 1) ts = expr (level n) ts := rfl
    rw [ev] at hok hx
    exact sim_form hs _ _ _ _ _ _ _ he (fun e ts' pv' h1 h2 h3 h4 => run_leave (hok e ts' pv' h1 h2 h3 h4)) hx
theorem machine {Q : MS -> Prop} {E : Fault -> Prop} {ts : Marks} {pv : Mark} (he : Ends ts)
    (hok : ∀ e u pv', (level DEEP ts).bind (fun e => (expect .fin e.2).bind fun _ => .ok e.1) = .ok e -> good e = true -> Q ⟨u, pv', 0, [], [e], []⟩)
    (hx : ∀ y, (level DEEP ts).bind (fun e => (expect .fin e.2).bind fun _ => .ok e.1) = .error y -> E y) : Run Q E ⟨ts, pv, 0, [.p .EXPR, .t .fin], [], []⟩ := by
  refine sim_level 40 0 rfl _ _ _ _ _ _ _ he (fun e ts' pv' h1 h2 h3 h4 => ?_) fun z ez => hx z (by show (level 40 ts).bind _ = _; rw [ez]; rfl)
  obtain ⟨m, r, rfl, he', hf⟩ := h2.cons
  by_cases e1 : kd m.tok = .fin
  · have e2 : m.tok = .fin := kd_fin.mp e1
    refine .next (s' := ⟨r, m, 0, [], [] ++ [e], []⟩) ?_ (.done (hok e r m ?_ h4))
    · show (if kd m.tok = .fin then _ else _) = _
      rw [if_pos e1]
    · show (level 40 ts).bind _ = _
      rw [h1]
      show (expect .fin (m :: r)).bind _ = _
      rw [expect_ok (show next (m :: r) = .fin from e2)]
      rfl
  · have e2 : ¬ m.tok = .fin := fun z => e1 (kd_fin.mpr z)
    refine .fail (x := ⟨3, m.place⟩) ?_ (hx _ ?_)
    · show (if kd m.tok = .fin then _ else _) = _
      rw [if_neg e1]
    · show (level 40 ts).bind _ = _
      rw [h1]
      show (expect .fin (m :: r)).bind _ = _
      rw [expect_no (show next (m :: r) ≠ .fin from e2)]
      rfl
end RM
end
section
set_option autoImplicit false
namespace CM
open Vastoa
structure Here (txt : Text) (n : Nat) (lit : Bool) (O : List Bool) (i : Nat) (T : Marks) : Prop where
  le : i <= txt.length
  fuel : txt.length < n + i
  eq : tokens txt = (cut n lit O i (txt.drop i)).map (T ++ ·)
theorem start (txt : Text) : Here txt (txt.length + 1) false [] 0 [] := ⟨Nat.zero_le _, by omega, by
  unfold tokens
  rw [List.drop_zero]
  cases cut (txt.length + 1) false [] 0 txt <;> rfl⟩
theorem map_before {T : Marks} {i : Nat} {t : Tok} {r : Except Fault Marks} : (before i t r).map (T ++ ·) = r.map ((T ++ [⟨i, t⟩]) ++ ·) := by
  cases r with
  | error f => rfl
  | ok l => show Except.ok (T ++ ⟨i, t⟩ :: l) = Except.ok (T ++ [⟨i, t⟩] ++ l); simp
theorem drop_cons {txt : Text} {i c : Nat} (h : txt[i]? = some c) : txt.drop i = c :: txt.drop (i + 1) := by
  obtain ⟨hi, rfl⟩ := List.getElem?_eq_some_iff.mp h
  exact List.drop_eq_getElem_cons hi
theorem drop_end {txt : Text} {i : Nat} (h : txt[i]? = none) : txt.drop i = [] := List.drop_eq_nil_of_le (List.getElem?_eq_none_iff.mp h)
theorem lt_of {txt : Text} {i c : Nat} (h : txt[i]? = some c) : i < txt.length := (List.getElem?_eq_some_iff.mp h).1
section
variable {txt : Text} {n i c : Nat} {O : List Bool} {T : Marks}
theorem Here.pos {lit : Bool} (h : Here txt n lit O i T) : ∃ m, n = m + 1 := ⟨n - 1, by have := h.fuel; have := h.le; omega⟩
theorem at_end (h : Here txt n false O i T) (e : txt[i]? = none) : tokens txt = .ok (T ++ [⟨i, .fin⟩]) := by
  obtain ⟨m, rfl⟩ := h.pos
  rw [h.eq, drop_end e]
  rfl
theorem at_blank (h : Here txt n false O i T) (e : txt[i]? = some c) (hb : blank c = true) : Here txt (n - 1) false O (i + 1) T := by
  obtain ⟨m, rfl⟩ := h.pos
  have hi := lt_of e
  refine ⟨hi, by have := h.fuel; omega, ?_⟩
  rw [h.eq, drop_cons e]
  show (if blank c then _ else _ : Except Fault Marks).map _ = _
  rw [if_pos hb]
  rfl
theorem takeWhile_run {p : Nat -> Bool} : ∀ (l : Text) (k : Nat), k <= l.length -> (∀ j, j < k -> ∃ x, l[j]? = some x /\ p x = true) -> (∀ x, l[k]? = some x -> p x = false) -> l.takeWhile p = l.take k
  | [], k, h, _, _ => by have : k = 0 := by simpa using h
                         subst this; rfl
  | a :: l, 0, _, _, h2 => by
    have := h2 a rfl
    simp [List.takeWhile_cons, this]
  | a :: l, k + 1, h, h1, h2 => by
    obtain ⟨x, ex, px⟩ := h1 0 (Nat.succ_pos _)
    cases ex
    rw [List.takeWhile_cons, if_pos px, List.take_succ_cons]
    rw [takeWhile_run l k (by simpa using h) (fun j hj => h1 (j + 1) (by omega)) fun x hx => h2 x hx]
theorem run_at {p : Nat -> Bool} {k : Nat} (hk : i + k <= txt.length) (h1 : ∀ j, j < k -> ∃ x, txt[i + j]? = some x /\ p x = true) (h2 : ∀ x, txt[i + k]? = some x -> p x = false) : (txt.drop i).takeWhile p = (txt.drop i).take k :=
  takeWhile_run _ k (by rw [List.length_drop]; omega) (fun j hj => by rw [List.getElem?_drop]; exact h1 j hj) fun x hx => h2 x (by rw [List.getElem?_drop] at hx; exact hx)
theorem run_len {k : Nat} (hk : i + k <= txt.length) : ((txt.drop i).take k).length = k := by rw [List.length_take, List.length_drop]; omega
theorem at_comment {k : Nat} (h : Here txt n false O i T) (e : txt[i]? = some 35) (hk : i + k <= txt.length) (h0 : 0 < k) (h1 : ∀ j, j < k -> ∃ x, txt[i + j]? = some x /\ x ≠ 10) (h2 : ∀ x, txt[i + k]? = some x -> x = 10) :
    Here txt (n - 1) false O (i + k) T := by
  obtain ⟨m, rfl⟩ := h.pos
  have hr := run_at (p := fun y => y != 10) hk (fun j hj => by obtain ⟨x, a, b⟩ := h1 j hj; exact ⟨x, a, by simpa using b⟩) fun x hx => by have := h2 x hx; subst this; rfl
  refine ⟨hk, by have := h.fuel; omega, ?_⟩
  rw [h.eq]
  have ed := drop_cons e
  have ev : cut (m + 1) false O i (txt.drop i) = cut m false O (i + ((txt.drop i).takeWhile fun y => y != 10).length) ((txt.drop i).drop ((txt.drop i).takeWhile fun y => y != 10).length) := by
    rw [ed]; rfl
  rw [ev, hr, run_len hk, List.drop_drop]
  rfl
theorem letter_no {c : Nat} (h : letter c = true) : blank c = false /\ c ≠ 35 := by
  unfold letter at h; unfold blank
  simp at h ⊢
  omega
theorem at_name {k : Nat} (h : Here txt n false O i T) (e : txt[i]? = some c) (hl : letter c = true) (hk : i + k <= txt.length) (h0 : 0 < k) (h1 : ∀ j, j < k -> ∃ x, txt[i + j]? = some x /\ inner x = true) (h2 : ∀ x, txt[i + k]? = some x -> inner x = false) :
    (32 < k -> tokens txt = .error ⟨2, i⟩) /\ (k <= 32 -> Here txt (n - 1) false O (i + k) (T ++ [⟨i, if reserved.contains ((txt.drop i).take k) then .word ((txt.drop i).take k) else .name ((txt.drop i).take k)⟩])) := by
  obtain ⟨m, rfl⟩ := h.pos
  have hr := run_at hk h1 h2
  have ed := drop_cons e
  obtain ⟨l1, l2⟩ := letter_no hl
  have ev : cut (m + 1) false O i (txt.drop i) = if 32 < ((txt.drop i).takeWhile inner).length then .error ⟨2, i⟩
      else before i (if reserved.contains ((txt.drop i).takeWhile inner) then .word ((txt.drop i).takeWhile inner) else .name ((txt.drop i).takeWhile inner))
        (cut m false O (i + ((txt.drop i).takeWhile inner).length) ((txt.drop i).drop ((txt.drop i).takeWhile inner).length)) := by
    rw [ed]
    show (if blank c then _ else if c = 35 then _ else if letter c then _ else _) = _
    rw [if_neg (by rw [l1]; decide), if_neg l2, if_pos hl]
  rw [hr, run_len hk, List.drop_drop] at ev
  constructor
  · intro hb
    rw [h.eq, ev, if_pos hb]
    rfl
  · intro hb
    refine ⟨hk, by have := h.fuel; omega, ?_⟩
    rw [h.eq, ev, if_neg (by omega), map_before]
    rfl
theorem digit_no {c : Nat} (h : digit c = true) : blank c = false /\ c ≠ 35 /\ letter c = false := by
  unfold digit at h; unfold blank letter
  simp at h ⊢
  omega
theorem at_number {k : Nat} (h : Here txt n false O i T) (e : txt[i]? = some c) (hl : digit c = true) (hk : i + k <= txt.length) (h0 : 0 < k) (h1 : ∀ j, j < k -> ∃ x, txt[i + j]? = some x /\ digit x = true) (h2 : ∀ x, txt[i + k]? = some x -> digit x = false) :
    ((30 < k \/ (c = 48 /\ 1 < k)) -> tokens txt = .error ⟨2, i⟩) /\ (¬ (30 < k \/ (c = 48 /\ 1 < k)) -> Here txt (n - 1) false O (i + k) (T ++ [⟨i, .num ((txt.drop i).take k)⟩])) := by
  obtain ⟨m, rfl⟩ := h.pos
  have hr := run_at hk h1 h2
  have ed := drop_cons e
  obtain ⟨l1, l2, l3⟩ := digit_no hl
  have ev : cut (m + 1) false O i (txt.drop i) = if 30 < ((txt.drop i).takeWhile digit).length \/ (c = 48 /\ 1 < ((txt.drop i).takeWhile digit).length) then .error ⟨2, i⟩
      else before i (.num ((txt.drop i).takeWhile digit))
        (cut m false O (i + ((txt.drop i).takeWhile digit).length) ((txt.drop i).drop ((txt.drop i).takeWhile digit).length)) := by
    rw [ed]
    show (if blank c then _ else if c = 35 then _ else if letter c then _ else if digit c then _ else _) = _
    rw [if_neg (by rw [l1]; decide), if_neg l2, if_neg (by rw [l3]; decide), if_pos hl]
  rw [hr, run_len hk, List.drop_drop] at ev
  constructor
  · intro hb
    rw [h.eq, ev, if_pos hb]
    rfl
  · intro hb
    refine ⟨hk, by have := h.fuel; omega, ?_⟩
    rw [h.eq, ev, if_neg hb, map_before]
    rfl
theorem at_quote (h : Here txt n false O i T) (e : txt[i]? = some 34) : Here txt (n - 1) true O (i + 1) (T ++ [⟨i, .quote⟩]) := by
  obtain ⟨m, rfl⟩ := h.pos
  refine ⟨lt_of e, by have := h.fuel; omega, ?_⟩
  rw [h.eq, drop_cons e]
  show (before i .quote (cut m true O (i + 1) (txt.drop (i + 1)))).map _ = _
  rw [map_before]
  rfl
theorem at_brace (h : Here txt n false O i T) (e : txt[i]? = some 123) : Here txt (n - 1) false (false :: O) (i + 1) (T ++ [⟨i, .sign [123]⟩]) := by
  obtain ⟨m, rfl⟩ := h.pos
  refine ⟨lt_of e, by have := h.fuel; omega, ?_⟩
  rw [h.eq, drop_cons e]
  show (before i (.sign [123]) (cut m false (false :: O) (i + 1) (txt.drop (i + 1)))).map _ = _
  rw [map_before]
  rfl
theorem at_unhole {O' : List Bool} (h : Here txt n false (true :: O') i T) (e : txt[i]? = some 125) : Here txt (n - 1) true O' (i + 1) (T ++ [⟨i, .unhole⟩]) := by
  obtain ⟨m, rfl⟩ := h.pos
  refine ⟨lt_of e, by have := h.fuel; omega, ?_⟩
  rw [h.eq, drop_cons e]
  show (before i .unhole (cut m true O' (i + 1) (txt.drop (i + 1)))).map _ = _
  rw [map_before]
  rfl
theorem at_unbrace (h : Here txt n false O i T) (e : txt[i]? = some 125) (hO : O.head? ≠ some true) : Here txt (n - 1) false (O.drop 1) (i + 1) (T ++ [⟨i, .sign [125]⟩]) := by
  obtain ⟨m, rfl⟩ := h.pos
  refine ⟨lt_of e, by have := h.fuel; omega, ?_⟩
  rw [h.eq, drop_cons e]
  show (if O.head? = some true then _ else before i (.sign [125]) (cut m false (O.drop 1) (i + 1) (txt.drop (i + 1)))).map _ = _
  rw [if_neg hO, map_before]
  rfl
def other (c : Nat) : Bool := !(blank c) && c != 35 && !(letter c) && !(digit c) && c != 34 && c != 123 && c != 125
theorem signAt_len {b x : Text} (h : signAt b = some x) : x = b.take x.length /\ 0 < x.length /\ x.length <= b.length := by
  unfold signAt at h
  split at h
  · rename_i hs
    cases h
    have : (b.take 2) ∈ signs2 := List.contains_iff_mem.mp hs
    have l2 : (b.take 2).length = 2 := by
      simp only [signs2, List.mem_cons, List.not_mem_nil, or_false] at this
      rcases this with e | e | e | e | e | e <;> rw [e] <;> rfl
    have hb : 2 <= b.length := by rw [List.length_take] at l2; omega
    exact ⟨by rw [l2], by omega, by omega⟩
  · split at h
    · rename_i hs
      cases h
      have : (b.take 1) ∈ signs1 := List.contains_iff_mem.mp hs
      have l2 : (b.take 1).length = 1 := by
        simp only [signs1, List.mem_cons, List.not_mem_nil, or_false] at this
        rcases this with e | e | e | e | e | e | e | e | e | e | e | e | e | e <;> rw [e] <;> rfl
      have hb : 1 <= b.length := by rw [List.length_take] at l2; omega
      exact ⟨by rw [l2], by omega, by omega⟩
    · cases h
theorem at_sign (h : Here txt n false O i T) (e : txt[i]? = some c) (ho : other c = true) :
    (signAt (txt.drop i) = none -> tokens txt = .error ⟨2, i⟩) /\ ∀ x, signAt (txt.drop i) = some x -> Here txt (n - 1) false O (i + x.length) (T ++ [⟨i, .sign x⟩]) := by
  obtain ⟨m, rfl⟩ := h.pos
  have ed := drop_cons e
  have ev : cut (m + 1) false O i (txt.drop i) = match signAt (txt.drop i) with
      | some x => before i (.sign x) (cut m false O (i + x.length) ((txt.drop i).drop x.length))
      | none => .error ⟨2, i⟩ := by
    rw [ed]
    unfold other at ho
    simp at ho
    obtain ⟨⟨⟨⟨⟨⟨o1, o2⟩, o3⟩, o4⟩, o5⟩, o6⟩, o7⟩ := ho
    show (if blank c then _ else if c = 35 then _ else if letter c then _ else if digit c then _ else if c = 34 then _ else if c = 123 then _ else if c = 125 then _ else _) = _
    rw [if_neg (by rw [o1]; decide), if_neg o2, if_neg (by rw [o3]; decide), if_neg (by rw [o4]; decide), if_neg o5, if_neg o6, if_neg o7]
    cases signAt (c :: txt.drop (i + 1)) <;> rfl
  constructor
  · intro hs
    rw [h.eq, ev, hs]
    rfl
  · intro x hs
    obtain ⟨hx, h0, hl⟩ := signAt_len hs
    have hl' : i + x.length <= txt.length := by rw [List.length_drop] at hl; have := lt_of e; omega
    refine ⟨hl', by have := h.fuel; omega, ?_⟩
    rw [h.eq, ev, hs]
    show (before i (.sign x) (cut m false O (i + x.length) ((txt.drop i).drop x.length))).map _ = _
    rw [map_before, List.drop_drop]
    rfl
def Gath (txt : Text) (i : Nat) (g : Text) (j : Nat) : Prop := j <= txt.length /\ gather i (txt.drop i) = (gather j (txt.drop j)).map fun y => (g ++ y.1, y.2.1, y.2.2)
theorem gath_start (h : i <= txt.length) : Gath txt i [] i := ⟨h, by cases gather i (txt.drop i) <;> rfl⟩
theorem gath_more {i j j' x : Nat} {g : Text} (h : Gath txt i g j) (hj : j' <= txt.length) (e : gather j (txt.drop j) = (gather j' (txt.drop j')).map fun y => (x :: y.1, y.2.1, y.2.2)) : Gath txt i (g ++ [x]) j' := by
  refine ⟨hj, ?_⟩
  rw [h.2, e]
  cases gather j' (txt.drop j') with
  | error f => rfl
  | ok y => show Except.ok _ = Except.ok _; simp
theorem gath_bad {i j : Nat} {g : Text} {f : Fault} (h : Gath txt i g j) (e : gather j (txt.drop j) = .error f) : gather i (txt.drop i) = .error f := by rw [h.2, e]; rfl
theorem gath_over {i j : Nat} {g r : Text} (h : Gath txt i g j) (e : gather j (txt.drop j) = .ok ([], j, r)) : gather i (txt.drop i) = .ok (g, j, r) := by
  rw [h.2, e]
  show Except.ok _ = Except.ok _
  simp
theorem gather_nil {j : Nat} (e : txt[j]? = none) : gather j (txt.drop j) = .error ⟨2, j⟩ := by rw [drop_end e]; rfl
theorem gather_escape {j c x : Nat} (e : txt[j]? = some 92) (e2 : txt[j + 1]? = some c) (u : unescape c = some x) : gather j (txt.drop j) = (gather (j + 2) (txt.drop (j + 2))).map fun y => (x :: y.1, y.2.1, y.2.2) := by
  rw [drop_cons e, drop_cons e2]
  show (match unescape c with | some x => _ | none => _) = _
  rw [u]
theorem gather_wrong {j c : Nat} (e : txt[j]? = some 92) (e2 : txt[j + 1]? = some c) (u : unescape c = none) : gather j (txt.drop j) = .error ⟨2, j⟩ := by
  rw [drop_cons e, drop_cons e2]
  show (match unescape c with | some x => _ | none => _) = _
  rw [u]
theorem gather_last {j : Nat} (e : txt[j]? = some 92) (e2 : txt[j + 1]? = none) : gather j (txt.drop j) = .error ⟨2, j⟩ := by
  rw [drop_cons e, drop_end e2]
  rfl
theorem gather_other (j c : Nat) (r : Text) (h : c ≠ 92) : gather j (c :: r) = if c = 34 \/ (c = 36 /\ r.head? = some 123) then .ok ([], j, c :: r)
    else if c < 32 /\ c ≠ 9 /\ c ≠ 10 then .error ⟨2, j⟩ else (gather (j + 1) r).map fun y => (c :: y.1, y.2.1, y.2.2) := by
  rw [gather]
  · intro e; exact absurd e h
  · intro d r' e; exact absurd e h
theorem gather_any {j c : Nat} (e : txt[j]? = some c) (h : c ≠ 92) : gather j (txt.drop j) = if c = 34 \/ (c = 36 /\ txt[j + 1]? = some 123) then .ok ([], j, txt.drop j)
    else if c < 32 /\ c ≠ 9 /\ c ≠ 10 then .error ⟨2, j⟩ else (gather (j + 1) (txt.drop (j + 1))).map fun y => (c :: y.1, y.2.1, y.2.2) := by
  have hh : (txt.drop (j + 1)).head? = txt[j + 1]? := by rw [List.head?_drop]
  rw [drop_cons e, gather_other _ _ _ h, hh]
def litRest (m : Nat) (O : List Bool) (j : Nat) (r : Text) : Except Fault Marks := match r with
  | 36 :: _ :: r => before j .hole (cut m false (true :: O) (j + 2) r)
  | r => before j .unquote (cut m false O (j + 1) (r.drop 1))
theorem lit_step {m : Nat} (g : Text) (j : Nat) (r : Text) (e : gather i (txt.drop i) = .ok (g, j, r)) : cut (m + 1) true O i (txt.drop i) =
    if g.isEmpty then litRest m O j r else before i (.piece g) (litRest m O j r) := by
  show (gather i (txt.drop i)).bind _ = _
  rw [e]
  rfl
def pieceOf (i : Nat) (g : Text) : Marks := if g.isEmpty then [] else [⟨i, .piece g⟩]
theorem map_piece {g : Text} {r : Except Fault Marks} : (if g.isEmpty then r else before i (.piece g) r).map (T ++ ·) = r.map ((T ++ pieceOf i g) ++ ·) := by
  unfold pieceOf
  by_cases h : g.isEmpty = true
  · rw [if_pos h, if_pos h, List.append_nil]
  · rw [if_neg h, if_neg h, map_before]
theorem lit_bad {f : Fault} (h : Here txt n true O i T) (e : gather i (txt.drop i) = .error f) : tokens txt = .error f := by
  obtain ⟨m, rfl⟩ := h.pos
  rw [h.eq]
  show ((gather i (txt.drop i)).bind _).map _ = _
  rw [e]
  rfl
theorem lit_quote {j : Nat} {g : Text} (h : Here txt n true O i T) (hj : i <= j) (e : gather i (txt.drop i) = .ok (g, j, txt.drop j)) (e2 : txt[j]? = some 34) : Here txt (n - 1) false O (j + 1) (T ++ pieceOf i g ++ [⟨j, .unquote⟩]) := by
  obtain ⟨m, rfl⟩ := h.pos
  refine ⟨lt_of e2, by have := h.fuel; omega, ?_⟩
  rw [h.eq, lit_step g j _ e, drop_cons e2]
  show (if g.isEmpty then before j .unquote (cut m false O (j + 1) (txt.drop (j + 1))) else before i (.piece g) (before j .unquote (cut m false O (j + 1) (txt.drop (j + 1))))).map _ = _
  rw [map_piece, map_before]
  rfl
theorem lit_hole {j : Nat} {g : Text} (h : Here txt n true O i T) (hj : i <= j) (e : gather i (txt.drop i) = .ok (g, j, txt.drop j)) (e2 : txt[j]? = some 36) (e3 : txt[j + 1]? = some 123) : Here txt (n - 1) false (true :: O) (j + 2) (T ++ pieceOf i g ++ [⟨j, .hole⟩]) := by
  obtain ⟨m, rfl⟩ := h.pos
  refine ⟨lt_of e3, by have := h.fuel; omega, ?_⟩
  rw [h.eq, lit_step g j _ e, drop_cons e2, drop_cons e3]
  show (if g.isEmpty then before j .hole (cut m false (true :: O) (j + 2) (txt.drop (j + 1 + 1))) else before i (.piece g) (before j .hole (cut m false (true :: O) (j + 2) (txt.drop (j + 1 + 1))))).map _ = _
  rw [map_piece, map_before]
  rfl
end
def okTok : Tok -> Bool
  | .word x => reserved.contains x
  | .sign x => ([[123], [125]] ++ signs2 ++ signs1).contains x
  | _ => true
def Fine (r : Except Fault Marks) : Prop := ∀ l, r = .ok l -> RM.Ends l /\ ∀ m ∈ l, okTok m.tok = true
theorem Fine.before {i : Nat} {t : Tok} {r : Except Fault Marks} (h : Fine r) (ht : okTok t = true) (hf : t ≠ .fin) : Fine (Vastoa.before i t r) := by
  intro l e
  cases r with
  | error f => cases e
  | ok l' =>
    cases e
    obtain ⟨⟨pre, q, rfl, hp⟩, h2⟩ := h l' rfl
    refine ⟨⟨⟨i, t⟩ :: pre, q, rfl, fun m hm => ?_⟩, fun m hm => ?_⟩
    · rcases List.mem_cons.mp hm with rfl | hm
      · exact hf
      · exact hp m hm
    · rcases List.mem_cons.mp hm with rfl | hm
      · exact ht
      · exact h2 m hm
theorem fine_error (f : Fault) : Fine (.error f) := fun l e => by cases e
theorem signAt_ok {b x : Text} (h : signAt b = some x) : okTok (.sign x) = true := by
  unfold signAt at h
  unfold okTok
  split at h
  · rename_i hs
    cases h
    have := List.contains_iff_mem.mp hs
    exact List.contains_iff_mem.mpr (by simp only [List.mem_append]; exact .inl (.inr this))
  · split at h
    · rename_i hs
      cases h
      have := List.contains_iff_mem.mp hs
      exact List.contains_iff_mem.mpr (by simp only [List.mem_append]; exact .inr this)
    · cases h
theorem fine_cut : ∀ (n : Nat) (lit : Bool) (O : List Bool) (i : Nat) (b : Text), Fine (cut n lit O i b)
  | 0, _, _, i, _ => fine_error _
  | n + 1, true, O, i, b => by
    show Fine ((gather i b).bind _)
    cases gather i b with
    | error f => exact fine_error f
    | ok g =>
      obtain ⟨g, j, r⟩ := g
      have hr : Fine (match r with
        | 36 :: _ :: r => before j .hole (cut n false (true :: O) (j + 2) r)
        | r => before j .unquote (cut n false O (j + 1) (r.drop 1))) := by
        split
        · exact (fine_cut n false _ _ _).before rfl (by intro z; cases z)
        · exact (fine_cut n false _ _ _).before rfl (by intro z; cases z)
      show Fine (if g.isEmpty then _ else _)
      split
      · exact hr
      · exact hr.before rfl (by intro z; cases z)
  | n + 1, false, O, i, [] => fun l e => by
    cases e
    exact ⟨⟨[], i, rfl, fun m hm => by cases hm⟩, fun m hm => by simp at hm; subst hm; rfl⟩
  | n + 1, false, O, i, c :: r => by
    unfold cut
    split
    · exact fine_cut n false _ _ _
    split
    · exact fine_cut n false _ _ _
    split
    · dsimp only
      split
      · exact fine_error _
      · refine (fine_cut n false _ _ _).before ?_ ?_
        · split
          · rename_i h; exact h
          · rfl
        · split <;> (intro z; cases z)
    split
    · dsimp only
      split
      · exact fine_error _
      · exact (fine_cut n false _ _ _).before rfl (by intro z; cases z)
    split
    · exact (fine_cut n true _ _ _).before rfl (by intro z; cases z)
    split
    · exact (fine_cut n false _ _ _).before (by decide) (by intro z; cases z)
    split
    · split
      · exact (fine_cut n true _ _ _).before rfl (by intro z; cases z)
      · exact (fine_cut n false _ _ _).before (by decide) (by intro z; cases z)
    split
    · rename_i x hx
      exact (fine_cut n false _ _ _).before (signAt_ok hx) (by intro z; cases z)
    · exact fine_error _
theorem fine_tokens {b : Text} {ts : Marks} (h : tokens b = .ok ts) : RM.Ends ts /\ ∀ m ∈ ts, okTok m.tok = true := fine_cut _ _ _ _ _ _ h
end CM
end
section
set_option autoImplicit false
namespace RM
open Vastoa
mutual
def tw : Tree -> Nat
  | .node _ ls l => 1 + ls.length + twOf l
def twOf : List Tree -> Nat
  | [] => 0
  | t :: r => tw t + twOf r
end
mutual
def lw : Tree -> Nat
  | .node _ ls l => (ls.map List.length).sum + lwOf l
def lwOf : List Tree -> Nat
  | [] => 0
  | t :: r => lw t + lwOf r
end
theorem twOf_append : ∀ a b : List Tree, twOf (a ++ b) = twOf a + twOf b
  | [], b => by simp [twOf]
  | t :: r, b => by simp only [List.cons_append, twOf, twOf_append r b]; omega
theorem lwOf_append : ∀ a b : List Tree, lwOf (a ++ b) = lwOf a + lwOf b
  | [], b => by simp [lwOf]
  | t :: r, b => by simp only [List.cons_append, lwOf, lwOf_append r b]; omega
theorem twOf_len : ∀ l : List Tree, l.length <= twOf l
  | [] => Nat.le_refl _
  | .node k ls l :: r => by have := twOf_len r; simp only [List.length_cons, twOf, tw]; omega
theorem twOf_split (B : List Tree) (n : Nat) : twOf (B.take n) + twOf (B.drop n) = twOf B := by rw [<- twOf_append, List.take_append_drop]
theorem lwOf_split (B : List Tree) (n : Nat) : lwOf (B.take n) + lwOf (B.drop n) = lwOf B := by rw [<- lwOf_append, List.take_append_drop]
def pw : Part -> Nat
  | .EXPR => 12 | .FORM => 10 | .FUNCTION => 1 | .FIELDS => 1 | .PARAMS => 1 | .GIVEN => 1 | .MPARAMS => 1 | .BINDS => 1 | .BOUND => 16 | .OR => 10 | .MOR => 1 | .AND => 9 | .MAND => 1 | .NOT => 8 | .CMP => 8 | .MCMP => 1
  | .UPD => 7 | .MUPD => 1 | .JOIN => 6 | .MJOIN => 1 | .SUM => 5 | .MSUM => 1 | .PROD => 4 | .MPROD => 1 | .NEG => 3 | .APP => 3 | .ARGS => 1 | .ARG => 4 | .SEL => 2 | .DOTS => 1 | .MDOTS => 1 | .DFLT => 1 | .ATOM => 1
  | .PIECES => 1 | .LIST => 14 | .MLIST => 1
def sw : Sym -> Nat
  | .p x => pw x
  | _ => 1
def ww : List Sym -> Nat
  | [] => 0
  | s :: r => sw s + ww r
theorem ww_append : ∀ a b : List Sym, ww (a ++ b) = ww a + ww b
  | [], b => by simp [ww]
  | s :: a, b => by simp only [List.cons_append, ww, ww_append a b]; omega
def owes : List Sym -> Nat
  | .t _ :: _ => 2
  | .p .ARG :: _ => 1
  | .p .SEL :: _ => 1
  | .p .ATOM :: _ => 1
  | .a .take :: .p .SEL :: _ => 1
  | _ => 0
def gw : List Bg -> Nat
  | [] => 0
  | g :: r => 1 + g.labels.length + g.names.length + gw r
def glw : List Bg -> Nat
  | [] => 0
  | g :: r => (g.labels.map List.length).sum + glw r
def hw : Marks -> Nat
  | [] => 0
  | m :: r => (held m.tok).length + hw r
def labs : Bool -> List Sym -> Bool
  | _, [] => true
  | _, .t _ :: W => labs true W
  | f, .a .label :: W => f && labs false W
  | f, .a _ :: W => labs f W
  | f, .p .BOUND :: W => f && labs false W
  | _, .p _ :: W => labs false W
theorem labs_mono : ∀ (W : List Sym), labs false W = true -> labs true W = true
  | [], _ => rfl
  | .t _ :: W, h => h
  | .a x :: W, h => by
    cases x with
    | label => simp [labs] at h
    | _ => simp only [labs] at h ⊢; exact labs_mono W h
  | .p x :: W, h => by cases x <;> simp [labs] at h ⊢ <;> exact h
theorem labs_any {f : Bool} {W : List Sym} (h : labs false W = true) : labs f W = true := by
  cases f with
  | false => exact h
  | true => exact labs_mono W h
theorem labs_app : ∀ (f : Bool) (C W : List Sym), labs f C = true -> labs false W = true -> labs f (C ++ W) = true
  | f, [], W, _, h => labs_any h
  | f, .t _ :: C, W, h, hW => by simp only [labs, List.cons_append] at h ⊢; exact labs_app true C W h hW
  | f, .a x :: C, W, h, hW => by
    cases x with
    | label => simp only [labs, List.cons_append, Bool.and_eq_true] at h ⊢; exact ⟨h.1, labs_app false C W h.2 hW⟩
    | _ => simp only [labs, List.cons_append] at h ⊢; exact labs_app f C W h hW
  | f, .p x :: C, W, h, hW => by
    cases x with
    | BOUND => simp only [labs, List.cons_append, Bool.and_eq_true] at h ⊢; exact ⟨h.1, labs_app false C W h.2 hW⟩
    | _ => simp only [labs, List.cons_append] at h ⊢; exact labs_app false C W h hW
theorem choice_labs (x : Part) (k : Tok) : labs (decide (x = .BOUND)) (choice x k) = true := by
  cases x <;> simp only [choice] <;> (repeat' split) <;> rfl
structure Fits (n c : Nat) (s : MS) : Prop where
  size : ww s.W + twOf s.B + gw s.G + 32 * s.ts.length <= 32 * n + 13 + 16 * owes s.W
  lab : ∃ f, labs f s.W = true /\ lwOf s.B + glw s.G + hw s.ts + (if f then (held s.pv.tok).length else 0) <= c
theorem choice_fits (x : Part) (k : Tok) (W : List Sym) : ww (choice x k) + 16 * owes (.p x :: W) <= pw x + 16 * owes (choice x k ++ W) := by
  cases x <;> simp only [choice] <;> (repeat' split) <;> simp [ww, sw, pw, owes]
theorem ww_ge : ∀ W : List Sym, W.length <= ww W
  | [] => Nat.le_refl _
  | s :: r => by
    have := ww_ge r
    have h1 : 1 <= sw s := by
      cases s with
      | p x => cases x <;> simp [sw, pw]
      | t k => exact Nat.le_refl _
      | a x => exact Nat.le_refl _
    simp only [List.length_cons, ww]
    omega
theorem owes_le (W : List Sym) : owes W <= 2 := by unfold owes; split <;> omega
theorem labs_part {f : Bool} {x : Part} {k : Tok} {W : List Sym} (h : labs f (.p x :: W) = true) : labs f (choice x k ++ W) = true := by
  have hc := choice_labs x k
  by_cases hx : x = .BOUND
  · subst hx
    simp only [labs, Bool.and_eq_true] at h
    obtain ⟨rfl, h⟩ := h
    exact labs_app true _ W hc h
  · rw [decide_eq_false hx] at hc
    have hW : labs false W = true := by
      cases x <;> first | exact absurd rfl hx | (simp only [labs] at h; exact h)
    cases f with
    | false => exact labs_app false _ W hc hW
    | true => exact labs_mono _ (labs_app false _ W hc hW)
theorem Fits.step {n c : Nat} {s s' : MS} (h : Fits n c s) (e : step s = some (.ok s')) : Fits n c s' := by
  obtain ⟨ts, pv, lv, W, B, G⟩ := s
  obtain ⟨h, f, hl, hc⟩ := h
  dsimp only at h hl hc
  cases W with
  | nil => cases e
  | cons y W =>
    cases y with
    | p x =>
      cases ts with
      | nil => cases e
      | cons m r =>
        cases e
        have c1 := choice_fits x (kd m.tok) W
        have w1 : ww (.p x :: W) = pw x + ww W := rfl
        refine ⟨?_, f, labs_part hl, hc⟩
        dsimp only
        rw [ww_append]
        omega
    | t k =>
      cases ts with
      | nil => cases e
      | cons m r =>
        have e : (if kd m.tok = k then some (.ok ⟨r, m, lv, W, B, G⟩) else some (.error ⟨3, m.place⟩) : Option (Except Fault MS)) = some (Except.ok s') := e
        split at e
        · cases e
          have w1 : ww (.t k :: W) = 1 + ww W := rfl
          have o1 : owes (.t k :: W) = 2 := rfl
          refine ⟨?_, true, hl, ?_⟩
          · dsimp only
            rw [List.length_cons] at h
            omega
          · simp only [hw] at hc
            simp only [if_true]
            split at hc <;> omega
        · cases e
    | a x =>
      have w1 : ww (.a x :: W) = 1 + ww W := rfl
      have o1 : owes (.a x :: W) <= owes W := by
        cases x with
        | take =>
          cases W with
          | nil => exact Nat.le_refl _
          | cons z W =>
            cases z with
            | p q => cases q <;> simp [owes]
            | t q => simp [owes]
            | a q => simp [owes]
        | _ => simp [owes]
      have e : stepA x ts pv lv W B G = some (.ok s') := e
      cases x with
      | begin => cases e; refine ⟨?_, f, hl, ?_⟩ <;> dsimp only [gw, glw] <;> simp only [List.length_nil, List.map_nil, List.sum_nil] <;> omega
      | take =>
        have e : (if B.length = 0 then none else some (.ok ⟨ts, pv, lv, W, B, ⟨B.length - 1, [], []⟩ :: G⟩) : Option (Except Fault MS)) = some (Except.ok s') := e
        split at e
        · cases e
        · cases e; refine ⟨?_, f, hl, ?_⟩ <;> dsimp only [gw, glw] <;> simp only [List.length_nil, List.map_nil, List.sum_nil] <;> omega
      | label =>
        cases G with
        | nil => cases e
        | cons g G =>
          cases e
          simp only [labs, Bool.and_eq_true] at hl
          obtain ⟨rfl, hl⟩ := hl
          refine ⟨?_, false, hl, ?_⟩
          · dsimp only [gw] at h ⊢; simp only [List.length_append, List.length_cons, List.length_nil]; omega
          · dsimp only [glw] at hc ⊢
            simp only [List.map_append, List.map_cons, List.map_nil, List.sum_append, List.sum_cons, List.sum_nil, if_true] at hc ⊢
            simp only [Bool.false_eq_true, if_false]
            omega
      | fresh =>
        cases G with
        | nil => cases e
        | cons g G =>
          have e : (if held pv.tok ∈ g.names then some (.error ⟨5, pv.place⟩) else some (.ok ⟨ts, pv, lv, W, B, ⟨g.first, g.labels, g.names ++ [held pv.tok]⟩ :: G⟩) : Option (Except Fault MS)) = some (Except.ok s') := e
          split at e
          · cases e
          · cases e; refine ⟨?_, f, hl, hc⟩; dsimp only [gw] at h ⊢; simp only [List.length_append, List.length_cons, List.length_nil]; omega
      | enter =>
        cases ts with
        | nil => cases e
        | cons m r =>
          have e : (if lv = 40 then some (.error ⟨4, m.place⟩) else some (.ok ⟨m :: r, pv, lv + 1, W, B, G⟩) : Option (Except Fault MS)) = some (Except.ok s') := e
          split at e
          · cases e
          · cases e; refine ⟨?_, f, hl, hc⟩; dsimp only; omega
      | leave =>
        have e : (if lv = 0 then none else some (.ok ⟨ts, pv, lv - 1, W, B, G⟩) : Option (Except Fault MS)) = some (Except.ok s') := e
        split at e
        · cases e
        · cases e; refine ⟨?_, f, hl, hc⟩; dsimp only; omega
      | fin k =>
        cases G with
        | nil => cases e
        | cons g G =>
          have e : (if g.first <= B.length then some (.ok ⟨ts, pv, lv, W, B.take g.first ++ [.node k g.labels (B.drop g.first)], G⟩) else none : Option (Except Fault MS)) = some (Except.ok s') := e
          split at e
          · cases e
            have s1 := twOf_split B g.first
            have s2 := lwOf_split B g.first
            refine ⟨?_, f, hl, ?_⟩
            · dsimp only [gw] at h ⊢
              rw [twOf_append]
              simp only [twOf, tw]
              omega
            · dsimp only [glw] at hc ⊢
              rw [lwOf_append]
              simp only [lwOf, lw]
              omega
          · cases e
theorem Fits.small {n c : Nat} {s : MS} (h : Fits n c s) (hn : n <= 5000) : s.W.length <= 200000 /\ s.B.length <= 200000 /\ gw s.G <= 200000 := by
  have h0 := h.size
  have h1 := ww_ge s.W
  have h2 := owes_le s.W
  have h3 := twOf_len s.B
  omega
theorem Fits.tree {n c : Nat} {s : MS} (h : Fits n c s) (hn : n <= 5000) : twOf s.B <= 200000 /\ lwOf s.B <= c := by
  have h0 := h.size
  have h2 := owes_le s.W
  obtain ⟨f, _, h3⟩ := h.lab
  constructor <;> omega
theorem gw_len : ∀ G : List Bg, G.length <= gw G
  | [] => Nat.le_refl _
  | g :: r => by have := gw_len r; simp only [List.length_cons, gw]; omega
theorem gw_mem : ∀ {G : List Bg} {g : Bg}, g ∈ G -> g.labels.length + g.names.length <= gw G
  | g' :: r, g, h => by
    rcases List.mem_cons.mp h with rfl | h
    · simp only [gw]; omega
    · have := gw_mem h; simp only [gw]; omega
theorem fits_start (ts : Marks) (pv : Mark) : Fits ts.length (hw ts) ⟨ts, pv, 0, [.p .EXPR, .t .fin], [], []⟩ := by
  refine ⟨?_, false, rfl, ?_⟩
  · simp [ww, sw, pw, gw, owes, twOf]; omega
  · simp [lwOf, glw]
end RM
end
section
set_option autoImplicit false
namespace CM
open Vastoa
def Holds (n : Nat) (r : Except Fault Marks) : Prop := ∀ l, r = .ok l -> RM.hw l <= n
theorem Holds.before {i n m : Nat} {t : Tok} {r : Except Fault Marks} (h : Holds n r) (ht : (RM.held t).length + n <= m) : Holds m (Vastoa.before i t r) := by
  intro l e
  cases r with
  | error f => cases e
  | ok l' =>
    cases e
    have := h l' rfl
    show (RM.held t).length + RM.hw l' <= m
    omega
theorem Holds.le {n m : Nat} {r : Except Fault Marks} (h : Holds n r) (hm : n <= m) : Holds m r := fun l e => Nat.le_trans (h l e) hm
theorem gather_le : ∀ (b : Text) (i : Nat) (g : Text) (j : Nat) (r : Text), gather i b = .ok (g, j, r) -> g.length + r.length <= b.length := by
  intro b
  induction hb : b.length using Nat.strongRecOn generalizing b with
  | ind n ih =>
    intro i g j r e
    subst hb
    match b, e with
    | [], e => cases e
    | c :: b', e =>
      by_cases h92 : c = 92
      · subst h92
        match b', e with
        | [], e => cases e
        | d :: b2, e =>
          have e : (match unescape d with
            | some x => (gather (i + 2) b2).map fun y => (x :: y.1, y.2.1, y.2.2)
            | none => .error ⟨2, i⟩ : Except Fault (Text × Nat × Text)) = .ok (g, j, r) := e
          cases hu : unescape d with
          | none => rw [hu] at e; cases e
          | some x =>
            rw [hu] at e
            cases hg : gather (i + 2) b2 with
            | error f => rw [hg] at e; cases e
            | ok y =>
              rw [hg] at e
              cases e
              have := ih b2.length (by simp; omega) b2 rfl (i + 2) y.1 y.2.1 y.2.2 hg
              simp; omega
      · rw [gather_other i c b' h92] at e
        split at e
        · cases e; simp
        · split at e
          · cases e
          · cases hg : gather (i + 1) b' with
            | error f => rw [hg] at e; cases e
            | ok y =>
              rw [hg] at e
              cases e
              have := ih b'.length (by simp) b' rfl (i + 1) y.1 y.2.1 y.2.2 hg
              simp; omega
theorem takeWhile_le (p : Nat -> Bool) (b : Text) : (b.takeWhile p).length <= b.length := by
  induction b with
  | nil => exact Nat.le_refl _
  | cons c b ih => rw [List.takeWhile_cons]; split <;> simp <;> omega
theorem held_cut : ∀ (n : Nat) (lit : Bool) (O : List Bool) (i : Nat) (b : Text), Holds b.length (cut n lit O i b)
  | 0, _, _, _, _ => fun l e => by cases e
  | n + 1, true, O, i, b => by
    show Holds _ ((gather i b).bind _)
    cases hg : gather i b with
    | error f => exact fun l e => by cases e
    | ok g =>
      obtain ⟨g, j, r⟩ := g
      have hl := gather_le b i g j r hg
      have hr : Holds r.length (litRest n O j r) := by
        unfold litRest
        split
        · exact (held_cut n false _ _ _).before (by simp [RM.held]; omega)
        · exact (held_cut n false _ _ _).before (by simp [RM.held])
      show Holds b.length (if g.isEmpty then litRest n O j r else Vastoa.before i (.piece g) (litRest n O j r))
      split
      · exact hr.le (by omega)
      · exact hr.before (t := .piece g) (by show g.length + r.length <= _; omega)
  | n + 1, false, O, i, [] => fun l e => by cases e; exact Nat.le_refl _
  | n + 1, false, O, i, c :: r => by
    unfold cut
    split
    · exact (held_cut n false _ _ _).le (by simp)
    split
    · exact (held_cut n false _ _ _).le (by rw [List.length_drop]; omega)
    split
    · dsimp only
      split
      · exact fun l e => by cases e
      · refine (held_cut n false _ _ _).before ?_
        have := takeWhile_le inner (c :: r)
        rw [List.length_drop]
        split <;> (show ((c :: r).takeWhile inner).length + _ <= _; omega)
    split
    · dsimp only
      split
      · exact fun l e => by cases e
      · refine (held_cut n false _ _ _).before ?_
        have := takeWhile_le digit (c :: r)
        rw [List.length_drop]
        show ((c :: r).takeWhile digit).length + _ <= _
        omega
    split
    · exact (held_cut n true _ _ _).before (by simp [RM.held])
    split
    · exact (held_cut n false _ _ _).before (by simp [RM.held])
    split
    · split
      · exact (held_cut n true _ _ _).before (by simp [RM.held])
      · exact (held_cut n false _ _ _).before (by simp [RM.held])
    split
    · exact (held_cut n false _ _ _).before (by rw [List.length_drop]; show 0 + _ <= _; omega)
    · exact fun l e => by cases e
theorem held_tokens {b : Text} {ts : Marks} (h : tokens b = .ok ts) : RM.hw ts <= b.length := held_cut _ _ _ _ _ _ h
end CM
end
section
set_option Elab.async false
set_option linter.all false
set_option maxRecDepth 100000
set_option maxHeartbeats 2000000
namespace L2
open PySem PySem.Spec PyProof.Rows
section
variable (P : Program) (w : World) (K : PySem.W.Frag) (mg : Str -> Option Value) (base : Heap) (CX : CXT) (k : Nat)
def FnAt (x : Str) (ps : List Str) (sp : Sp) : Prop := ∃ f fd, mg x = some (.ref f) /\ FnOk P w K mg base CX k f fd ps sp /\ PySem.W.keepIn K (.ref f) = true /\ Binds K fd ps []
def MtAt (C : Addr) (m : Str) (ps : List Str) (sp : Sp) : Prop := ∃ f fd, Meth K C m f /\ FnOk P w K mg base CX k f fd ps sp /\ Binds K fd ps []
def MkAt (C : Addr) (x : Str) (ps : List Str) (sp : Sp) : Prop := ∃ f fd, mg x = some (.ref C) /\ Mk K C f /\ FnOk P w K mg base CX k f fd ps sp /\ Binds K fd ps []
def XMkAt (C : Addr) (x : Str) (ps : List Str) (sp : Sp) : Prop := ∃ f fd, mg x = some (.ref C) /\ XMk K C f /\ FnOk P w K mg base CX0 k f fd ps sp /\ Binds K fd ps []
end
section
variable {X : Cx} {CX : CXT} {k : Nat} {C : Addr} {ps : List Str} {sp : Sp} {E : XK} {x m : Str} {p pos apos : Pos} {e o : Expr} {es : List Expr} {ta : TE} {t : TA}
theorem pe_callF (G : FnAt X.prog X.w X.K X.mg X.base CX k x ps sp) (hr : Room k X.A) (hx : Passes CX X E) (ha : PA X (e :: es) t) (hg : Gl X x := by rfl)
    (hdb : (x == ("__debug__" : Str)) = false := by decide) (he : starEach (e :: es) X.env = (false, eval e X.env) :: starEach es X.env := by rfl) (hpl : (backTo pos (starEach es X.env)).any (·.1) = false := by rfl) :
    PE X (.Call (.Name x p) (e :: es) [] pos) (tCall sp [] E t) := by
  obtain ⟨f, fd, h1, h2, h3, h4⟩ := G
  exact pe_call h2 hr hg h1 h3 h4 .nil hx ha hdb he hpl
theorem pe_methF {pl : Sem Bool} (G : MtAt X.prog X.w X.K X.mg X.base CX k C m ps sp) (c : Cls X.K C) (hr : Room k X.A) (hx : Passes CX X E) (he : PE X o ta) (ha : PA X (e :: es) t)
    (hst : starEach (e :: es) X.env = (false, eval e X.env) :: starEach es X.env := by rfl) (hpl : (backTo pos (starEach es X.env)).any (·.1) = false := by rfl)
    (ht : eval (.Call (.Attribute o m apos) (e :: es) [] pos) X.env = (do
      let ov <- eval o X.env
      standAt apos.atName
      let (f, first) <- holding [ov] (getMethod ov m pl)
      callWith pos f first (backTo pos (starEach (e :: es) X.env)) (backToKw pos (keywordEach [] X.env))) := by rfl) :
    PE X (.Call (.Attribute o m apos) (e :: es) [] pos) (tMeth C m sp [] E ta t) := by
  obtain ⟨f, fd, h1, h2, h3⟩ := G
  exact pe_meth he c h1 h2 hr h3 .nil hx ha hst hpl ht
theorem pe_methF0 {pl : Sem Bool} (G : MtAt X.prog X.w X.K X.mg X.base CX k C m ps sp) (c : Cls X.K C) (hr : Room k X.A) (hx : Passes CX X E) (he : PE X o ta)
    (ht : eval (.Call (.Attribute o m apos) [] [] pos) X.env = (do
      let ov <- eval o X.env
      standAt apos.atName
      let (f, first) <- holding [ov] (getMethod ov m pl)
      callWith pos f first (backTo pos (starEach [] X.env)) (backToKw pos (keywordEach [] X.env))) := by rfl) :
    PE X (.Call (.Attribute o m apos) [] [] pos) (tMeth C m sp [] E ta tNil) := by
  obtain ⟨f, fd, h1, h2, h3⟩ := G
  exact pe_meth0 he c h1 h2 hr h3 .nil hx ht
theorem pe_makeF (G : MkAt X.prog X.w X.K X.mg X.base CX k C x ps sp) (hr : Room (k + 1) X.A) (hx : Passes CX X E) (ha : PA X (e :: es) t) (hg : Gl X x := by rfl)
    (hdb : (x == ("__debug__" : Str)) = false := by decide) (he : starEach (e :: es) X.env = (false, eval e X.env) :: starEach es X.env := by rfl) (hpl : (backTo pos (starEach es X.env)).any (·.1) = false := by rfl) :
    PE X (.Call (.Name x p) (e :: es) [] pos) (tMake C sp [] E t) := by
  obtain ⟨f, fd, h1, h2, h3, h4⟩ := G
  exact pe_make h2 h3 hr hg h1 h4 .nil hx ha hdb he hpl
def GlV (mg : Str -> Option Value) (x : Str) (v : V) : Prop := ∃ u, mg x = some u /\ RelV v u
theorem pe_gl {v : V} (h : GlV X.mg x v) (hg : Gl X x := by rfl) (hd : (x == ("__debug__" : Str)) = false := by decide) : PE X (.Name x pos) (tC v) := by
  obtain ⟨u, h1, h2⟩ := h
  exact pe_glob hg h1 h2 hd
end
section
variable {P : Program} {w : World} {K : PySem.W.Frag} {mg : Str -> Option Value} {base : Heap} {N : List Str} {qual : Str} {scope : Scope} {f : Addr} {cd : Value} {A : Around} {outer : List Env} {s0 : Shared} {H0 : Hp} {E : XK}
variable {k : Nat} {C : Addr} {ps : List Str} {sp : Sp} {x : Str} {np cpos pos : Pos} {es : List Expr} {t : TA}
theorem ps_raiseF {e : Expr} (G : XMkAt P w K mg base k C x ps sp) (hr : Room (k + 1) (cxOf (CXR P w) P w K mg base N qual scope f cd A outer s0 H0 E).A)
    (ha : PA (cxOf (CXR P w) P w K mg base N qual scope f cd A outer s0 H0 E) (e :: es) t) (hg : Gl (cxOf (CXR P w) P w K mg base N qual scope f cd A outer s0 H0 E) x := by rfl)
    (hdb : (x == ("__debug__" : Str)) = false := by decide)
    (he : starEach (e :: es) (cxOf (CXR P w) P w K mg base N qual scope f cd A outer s0 H0 E).env = (false, eval e (cxOf (CXR P w) P w K mg base N qual scope f cd A outer s0 H0 E).env) :: starEach es (cxOf (CXR P w) P w K mg base N qual scope f cd A outer s0 H0 E).env := by rfl)
    (hpl : (backTo cpos (starEach es (cxOf (CXR P w) P w K mg base N qual scope f cd A outer s0 H0 E).env)).any (·.1) = false := by rfl) :
    PS (cxOf (CXR P w) P w K mg base N qual scope f cd A outer s0 H0 E) (.Raise (some (.Call (.Name x np) (e :: es) [] cpos)) none pos) (tRaise C sp E t) := by
  obtain ⟨g, fd, h1, h2, h3, h4⟩ := G
  exact ps_raise h2 h3 hr h4 hg h1 ha hdb he hpl
theorem ps_raiseF0 (G : XMkAt P w K mg base k C x ps sp) (hr : Room (k + 1) (cxOf (CXR P w) P w K mg base N qual scope f cd A outer s0 H0 E).A)
    (hg : Gl (cxOf (CXR P w) P w K mg base N qual scope f cd A outer s0 H0 E) x := by rfl) (hdb : (x == ("__debug__" : Str)) = false := by decide) :
    PS (cxOf (CXR P w) P w K mg base N qual scope f cd A outer s0 H0 E) (.Raise (some (.Call (.Name x np) [] [] cpos)) none pos) (tRaise C sp E tNil) := by
  obtain ⟨g, fd, h1, h2, h3, h4⟩ := G
  exact ps_raise0 h2 h3 hr h4 hg h1 hdb
theorem Fun.okR {y qual : Str} {st : Stmt} {f : Addr} {fd : FuncData} {N ps : List Str} {k : Nat} {sp : Sp} (F : Fun K y qual st f fd) (S : FnScope N ps (defScope st)) (len : ∀ vs H Q E, sp vs H Q E -> vs.length = ps.length)
    (hbody : ∀ (cdv : Value) (A : Around) (outer : List Env) (s : Shared) (H : Hp) (vs : List V) (Q : VK) (E : XK), Room k (A.deeper (envOfC qual (defScope st) s.heap.objs.size f cdv)) -> sp vs H Q E ->
      ∃ t, PSs (cxOf (CXR P w) P w K mg base N qual (defScope st) f cdv A outer s H E) (defBody st) t /\ t { nx := fun _ H' => Q .non H', rt := Q } (start N vs) H) : FnOk P w K mg base (CXR P w) (k + 1) f fd ps sp := by
  obtain ⟨oc, od, kV, doc, pm, an, cdv, ct, osl, rfl, lk, hcd⟩ := F.ex
  exact fn_of lk hcd S len fun A outer s H vs Q E hr hsp => hbody cdv A outer s H vs Q E hr hsp
end
end L2
end
section
set_option Elab.async false
set_option linter.all false
set_option maxRecDepth 100000
set_option maxHeartbeats 2000000
namespace L2
open PySem PySem.Spec PyProof.Rows
def KTup (K : PySem.W.Frag) (a : Addr) (xs : List V) : Prop := ∃ (o : Obj) (its : Array Value) (n : Nat), K.lookup a = some o /\ o.cls = .type "tuple" /\ o.data = .seq its n /\ its.size <= sizeLine /\ Vals xs its.toList
theorem KTup.sq {K : PySem.W.Frag} {a : Addr} {xs : List V} (h : KTup K a xs) (H : Hp) : SqT K H a xs := .inr h
def KDict (P : Program) (w : World) (K : PySem.W.Frag) (a : Addr) (kvs : List (Key × V)) : Prop := (a == sysModules) = false /\ ∃ vs, KV kvs vs /\ ∀ h, K.In h -> h.DictOf (mixKind P w) a vs
section
variable {X : Cx} {pins : List (Addr × Obj)} {σ : St} {H : Hp} {s : Shared} {a : Addr} {y v : V} {u r : Value} {o : Option V} {A : Around} {E : Value -> Shared -> Prop} {kvs : List (Key × V)} {k : Key}
theorem k_getItem {Q : Value -> Shared -> Prop} (I : Inv X pins σ H s) (d : KDict X.prog X.w X.K a kvs) (l : valV kvs k = some v) (ry : RelV (kV k) u) (h : ∀ w' s', Inv X pins σ H s' -> RelV v w' -> Q w' s') :
    wpAny (model X.prog X.w) A (getItem (.ref a) u) Q E s := by
  obtain ⟨hd, vs, rel, dd⟩ := d
  have dd := dd _ I.kIn
  obtain ⟨w', hw, rw'⟩ := RelO.some_of (v := v) (o := valueAt vs k) (by rw [<- l]; exact rel.val k)
  exact wpAny_getItem_of (kV_is ry) dd.mapOf hw (h w' _ (I.tok _) rw')
theorem k_in {Q : Value -> Shared -> Prop} (I : Inv X pins σ H s) (d : KDict X.prog X.w X.K a kvs) (ry : RelV (kV k) u) (h : ∀ s', Inv X pins σ H s' -> Q (.bool (valV kvs k).isSome) s') :
    wpAny (model X.prog X.w) A (compareOp .In u (.ref a)) Q E s := by
  obtain ⟨hd, vs, rel, dd⟩ := d
  have dd := dd _ I.kIn
  refine wpAny_in_of (kV_is ry) hd dd.mapOf ?_
  rw [<- (rel.val k).isSome_eq]
  exact h _ (I.tok _)
theorem k_get1 {Q : Value -> Shared -> Prop} (I : Inv X pins σ H s) (d : KDict X.prog X.w X.K a kvs) (ry : RelV (kV k) u) (h : ∀ w' s', Inv X pins σ H s' -> RelV ((valV kvs k).getD .non) w' -> Q w' s') :
    wpAny (model X.prog X.w) A (call (.builtin "dict.get") [.ref a, u]) Q E s := by
  obtain ⟨hd, vs, rel, dd⟩ := d
  have dd := dd _ I.kIn
  refine call_meetsIn PySem.F.slot_dict_get dd.typeIs PySem.F.entry_dict_get (PySem.F.args_dict_get_2 _ _) (meets_dict_get (mixKind X.prog X.w) a (kV_is ry) hd) ⟨_, dd.mapOf, h _ _ (I.tok _) ?_⟩
  exact (rel.val k).getD rfl
theorem k_typeIs (I : Inv X pins σ H s) (d : KDict X.prog X.w X.K a kvs) : s.TypeIs (.ref a) "dict" /\ (∀ b, Value.ref a = .ref b -> ∃ ob, s.heap.get? b = some ob /\ ob.dict = none) := by
  obtain ⟨hd, vs, rel, dd⟩ := d
  have dd := dd _ I.kIn
  refine ⟨dd.typeIs, fun b q => ?_⟩
  cases q
  obtain ⟨ob, _, _, h1, h2, _⟩ := dd
  exact ⟨ob, h1, h2.2.1⟩
end
def tKGet (P : Program) (w : World) (K : PySem.W.Frag) (td ty : TE) : TE := fun σ H Q => td σ H fun x H1 => ty σ H1 fun y H2 => ∃ a kvs k v, x = .ref a /\ KDict P w K a kvs /\ y = kV k /\ valV kvs k = some v /\ Q v H2
def tKIn (P : Program) (w : World) (K : PySem.W.Frag) (ty td : TE) : TE := fun σ H Q => ty σ H fun y H1 => td σ H1 fun x H2 => ∃ a kvs k, x = .ref a /\ KDict P w K a kvs /\ y = kV k /\ Q (.bl (valV kvs k).isSome) H2
def tKGet1 (P : Program) (w : World) (K : PySem.W.Frag) (td ty : TE) : TE := fun σ H Q => td σ H fun x H1 => ∃ a kvs, x = .ref a /\ KDict P w K a kvs /\ ty σ H1 fun y H2 => ∃ k, y = kV k /\ Q ((valV kvs k).getD .non) H2
section
variable {X : Cx} {o i e : Expr} {pos apos cpos : Pos} {td ty : TE}
theorem pe_kget (ho : PE X o td) (hi : PE X i ty) (hs : NoSl i) : PE X (.Subscript o i pos) (tKGet X.prog X.w X.K td ty) := by
  intro pins s σ H Q I h
  refine subD_of PySem.F.slot_dict_getitem.lookup hs (thn (ho pins s σ H _ I h) fun u s1 ⟨x, H1, I1, rx, q1⟩ => thn (hi pins s1 σ H1 _ I1 q1) fun iv s2 ⟨y, H2, I2, ry, a, kvs, k, v, ex, d, ey, l, q2⟩ => ?_)
  subst ex ey
  obtain rfl : u = Value.ref a := rx
  exact ⟨(k_typeIs I2 d).1, k_getItem I2 d l ry fun w' s3 I3 rw' => ⟨v, H2, I3, rw', q2⟩⟩
theorem pc_kin (hi : PE X i ty) (ho : PE X o td) : PC X .In i o (tKIn X.prog X.w X.K ty td) := by
  intro pins s σ H Q I h
  refine thn (hi pins s σ H _ I h) fun iv s1 ⟨y, H1, I1, ry, q1⟩ => thn (ho pins s1 σ H1 _ I1 q1) fun u s2 ⟨x, H2, I2, rx, a, kvs, k, ex, d, ey, q2⟩ => ?_
  subst ex ey
  obtain rfl : u = Value.ref a := rx
  exact k_in I2 d ry fun s3 I3 => ⟨.bl (valV kvs k).isSome, H2, I3, rfl, q2⟩
theorem pe_kget1 (ho : PE X o td) (he : PE X e ty) (m : M1 X o "get" apos e cpos) : PE X (.Call (.Attribute o "get" apos) [e] [] cpos) (tKGet1 X.prog X.w X.K td ty) := by
  intro pins s σ H Q I h
  refine wpAny_Call_method m.base m.few m.line PySem.F.plainAttrs_dict PySem.F.slot_dict_get PySem.F.type_dict_get (thn (ho pins s σ H _ I h) fun u s1 ⟨x, H1, I1, rx, a, kvs, ex, d, q1⟩ => ?_)
  subst ex
  obtain rfl : u = Value.ref a := rx
  obtain ⟨t1, t2⟩ := k_typeIs I1 d
  refine ⟨t1, t2, ?_⟩
  rw [m.trees]
  refine Calls.callWith_builtin rfl (Calls.evalArgs_plain (Calls.spliced_cons (thn (he pins s1 σ H1 _ I1 q1) fun iv s2 ⟨y, H2, I2, ry, k, ey, q2⟩ => Calls.spliced_nil ?_)))
  subst ey
  exact k_get1 I2 d ry fun w' s3 I3 rw' => ⟨_, H2, I3, rw', q2⟩
end
theorem lc_str {x : Str} {g : TG} {tt : TT} {te : TE} {vs : List Nat} {σ : St} {H1 : Hp} {D : Addr} {Qd : Hp -> Prop} (Pv : Nat -> Hp -> Prop) (h0 : Pv 0 (upd H1 D (.lst [])))
    (hs : ∀ i c H, x.cps[i]? = some c -> Pv i H -> g (.str ⟨#[c]⟩) (wipe σ vs) H fun σ2 H2 => wipe σ2 vs = wipe σ vs /\ tt σ2 H2 fun b H3 =>
      if b = true then te σ2 H3 fun y H4 => ∃ acc, H4 D = some (.lst acc) /\ acc.length < sizeLine /\ Pv (i + 1) (upd H4 D (.lst (acc ++ [y]))) else Pv (i + 1) H3) (hd : ∀ H, Pv x.cps.size H -> Qd H) :
    ∃ W : Nat -> Nat -> Hp -> Prop, (∃ m, W 0 m (upd H1 D (.lst []))) /\ ∀ i m H, W i m H ->
      ((Its x).stop i H /\ Qd H) \/ ((Its x).go i H /\ ∃ Nx : Hp -> Prop, (∀ H', Nx H' -> ∃ m', m' < m /\ W (i + 1) m' H') /\ ∀ v H', (Its x).yld i H v H' -> g v (wipe σ vs) H' fun σ2 H2 => wipe σ2 vs = wipe σ vs /\ tt σ2 H2 fun b H3 =>
        if b = true then te σ2 H3 fun y H4 => ∃ acc, H4 D = some (.lst acc) /\ acc.length < sizeLine /\ Nx (upd H4 D (.lst (acc ++ [y]))) else Nx H3) := by
  refine ⟨fun i m H => m = x.cps.size - i /\ i <= x.cps.size /\ Pv i H, ⟨x.cps.size, by simp, Nat.zero_le _, h0⟩, ?_⟩
  rintro i m H ⟨rfl, hi, p⟩
  by_cases hlt : i < x.cps.size
  · refine .inr ⟨hlt, Pv (i + 1), fun H' p' => ⟨x.cps.size - (i + 1), by omega, rfl, hlt, p'⟩, fun v H' y => ?_⟩
    obtain ⟨e, c, hc, rfl⟩ := y
    subst e
    exact hs i c _ hc p
  · have e : i = x.cps.size := by omega
    subst e
    exact .inl ⟨Nat.le_refl _, hd H p⟩
end L2
end
section
set_option Elab.async false
set_option linter.all false
set_option maxRecDepth 100000
set_option maxHeartbeats 2000000
namespace L2
open PySem PySem.Spec PyProof.Rows
section
variable {X : Cx} {a b : Expr} {ta tb : TE} {es : List Expr} {t : TA} {pos tp : Pos}
theorem same_new {H : Hp} {p : Addr} {o : HO} (h : H p = none) : Same H (upd H p o) := fun b u e => by rw [upd_ne (ne_of_none e h)]; exact e
theorem pe_cmpI {op : CmpOp} {r : R2} {R : V -> Hp -> VK -> Prop} (ho : OpR X (compareOp op) r) (ha : PE X a ta) (hb : PE X b tb) (hm : behindInMarks op b = false) (i : ∀ σ x H Q, R x H Q -> tb σ H fun y H2 => r x y H2 Q) :
    PE X (.Compare a [op] [b] pos) (fun σ H Q => ta σ H fun x H1 => R x H1 Q) := by
  intro pins s σ H Q I h
  refine wpAny_Compare1 (thn (ha pins s σ H _ I h) fun v s1 ⟨x, H1, I1, r1, q1⟩ => thn (hb pins s1 σ H1 _ I1 (i _ _ _ _ q1)) fun u s2 ⟨y, H2, I2, r2, q2⟩ => ?_) hm
  exact ho pins s2 σ H2 x y v u Q I2 r1 r2 q2
theorem pt_cmpI {op : CmpOp} {r : R2} {R : V -> Hp -> VK -> Prop} (ho : OpR X (compareOp op) r) (ha : PE X a ta) (hb : PE X b tb) (hm : behindInMarks op b = false) (i : ∀ σ x H Q, R x H Q -> tb σ H fun y H2 => r x y H2 Q) :
    PT X (.Compare a [op] [b] pos) (tTest fun σ H Q => ta σ H fun x H1 => R x H1 Q) := by
  intro pins s σ H Q I h
  refine wpAny_isTrue_Compare1 (thn (ha pins s σ H _ I h) fun v s1 ⟨x, H1, I1, r1, q1⟩ => thn (hb pins s1 σ H1 _ I1 (i _ _ _ _ q1)) fun u s2 ⟨y, H2, I2, r2, q2⟩ =>
    thn (ho pins s2 σ H2 x y v u _ I2 r1 r2 q2) fun c s3 ⟨z, H3, I3, r3, k, e, q3⟩ => ?_) hm
  subst e
  cases r3
  exact wpAny_truthy_bool ⟨H3, I3, q3⟩
def rInT (neg : Bool) (xs : List V) : V -> Hp -> VK -> Prop := fun x H Q => flatV x = true /\ ∀ H', Same H H' -> Q (.bl (if neg then !inV x xs else inV x xs)) H'
def tInT (neg : Bool) (xs : List V) (ta : TE) : TE := fun σ H Q => ta σ H fun x H1 => rInT neg xs x H1 Q
theorem inT_imp {neg : Bool} {xs : List V} {K : PySem.W.Frag} (ht : ∀ σ H Q, t σ H Q = Q xs H) (hx : xs.all flatV = true) (hl : xs.length <= 1000) (σ : St) (x : V) (H : Hp) (Q : VK) (q : rInT neg xs x H Q) : tTup t σ H fun y H2 => rIn K neg x y H2 Q := by
  show t σ H _
  rw [ht]
  exact ⟨Nat.le_of_lt (small1000 hl), fun p hp => ⟨p, xs, rfl, .inr (SqT.of upd_same), q.1, hx, q.2 _ (same_new hp)⟩⟩
variable {tr : Nat} {xs : List V}
theorem pe_inT (ha : PE X a ta) (hes : PA X es t) (ht : ∀ σ H Q, t σ H Q = Q xs H := by intro _ _ _; rfl) (hx : xs.all flatV = true := by rfl) (hl : xs.length <= 1000 := by decide)
    (hmk : behindInMarks .In (.Tuple es tr tp) = false := by with_unfolding_all rfl) : PE X (.Compare a [.In] [.Tuple es tr tp] pos) (tInT false xs ta) := pe_cmpI (R := rInT false xs) (ta := ta) op_in_seq ha (pe_tup hes) hmk (inT_imp ht hx hl)
theorem pt_inT (ha : PE X a ta) (hes : PA X es t) (ht : ∀ σ H Q, t σ H Q = Q xs H := by intro _ _ _; rfl) (hx : xs.all flatV = true := by rfl) (hl : xs.length <= 1000 := by decide)
    (hmk : behindInMarks .In (.Tuple es tr tp) = false := by with_unfolding_all rfl) : PT X (.Compare a [.In] [.Tuple es tr tp] pos) (tTest (tInT false xs ta)) := pt_cmpI (R := rInT false xs) (ta := ta) op_in_seq ha (pe_tup hes) hmk (inT_imp ht hx hl)
theorem pt_notInT (ha : PE X a ta) (hes : PA X es t) (ht : ∀ σ H Q, t σ H Q = Q xs H := by intro _ _ _; rfl) (hx : xs.all flatV = true := by rfl) (hl : xs.length <= 1000 := by decide)
    (hmk : behindInMarks .NotIn (.Tuple es tr tp) = false := by with_unfolding_all rfl) : PT X (.Compare a [.NotIn] [.Tuple es tr tp] pos) (tTest (tInT true xs ta)) := pt_cmpI (R := rInT true xs) (ta := ta) op_notIn_seq ha (pe_tup hes) hmk (inT_imp ht hx hl)
end
end L2
namespace L2
open PySem PySem.Spec PyProof.Rows
def nt (l : List Nat) : List V := l.map fun n : Nat => V.int (n : Int)
theorem nt_len (l : List Nat) : (nt l).length = l.length := List.length_map _
def ntD (l : List Nat) : PyData := .list (l.map fun n : Nat => .int (n : Int))
theorem dp_all {K : PySem.W.Frag} {H : Hp} : ∀ l : List Nat, DpAll K H (nt l) (l.map fun n : Nat => .int (n : Int))
  | [] => .nil
  | n :: r => .cons (.int _) (dp_all r)
theorem dp_nt {K : PySem.W.Frag} {H : Hp} {p : Addr} {l : List Nat} (h : SqL K H p (nt l)) : Dp K H (.ref p) (ntD l) := .lst h (dp_all l)
theorem lay_nt : ∀ l : List Nat, PyData.canLayAll0 (l.map fun n : Nat => .int (n : Int)) = true
  | [] => by simp [PyData.canLayAll0]
  | n :: r => by simp [PyData.canLayAll0, PyData.canLay0, lay_nt r]
theorem depth_nt : ∀ l : List Nat, PyData.depthAll (l.map fun n : Nat => .int (n : Int)) = 0
  | [] => by simp [PyData.depthAll]
  | n :: r => by simp [PyData.depthAll, PyData.depth, depth_nt r]
theorem shaped_nt (l : List Nat) : SeqAt.shaped (ntD l) = true := by
  unfold SeqAt.shaped ntD
  simp [PyData.canLay0, lay_nt, PyData.depth, depth_nt]
theorem eqv_all_nt : ∀ l m : List Nat, PyData.eqvAll (l.map fun n : Nat => .int (n : Int)) (m.map fun n : Nat => .int (n : Int)) = decide (l = m)
  | [], [] => by simp [PyData.eqvAll]
  | [], _ :: _ => by simp [PyData.eqvAll]
  | _ :: _, [] => by simp [PyData.eqvAll]
  | a :: l, b :: m => by
    simp only [List.map_cons, PyData.eqvAll, PyData.eqv, eqv_all_nt l m, List.cons.injEq]
    by_cases h : a = b
    · subst h; simp
    · have : ¬ ((a : Int) = b) := by omega
      simp [h, this]
theorem eqv_nt (l m : List Nat) : PyData.eqv (ntD l) (ntD m) = decide (l = m) := by
  unfold ntD
  simp only [PyData.eqv]
  exact eqv_all_nt l m
theorem eqD_nt {K : PySem.W.Frag} {H : Hp} {p q : Addr} {l m : List Nat} {Q : VK} (h1 : SqL K H p (nt l)) (h2 : SqL K H q (nt m)) (h : Q (.bl (decide (l = m))) H) : rEqD K (.ref p) (.ref q) H Q :=
  ⟨_, _, dp_nt h1, dp_nt h2, shaped_nt l, shaped_nt m, by rw [eqv_nt]; exact h⟩
end L2
end
section
set_option Elab.async false
set_option linter.all false
set_option maxRecDepth 100000
set_option maxHeartbeats 400000
namespace L2
open PySem PySem.Spec PyProof.Rows
open Sem (wp)
section
variable {P : Program} {w : World} {A : Around} {R : Result -> Shared -> Prop} {it : Addr} {fp wr : List Addr} {n : Nat} {Pz : Nat -> Value -> Prop} {St : Nat -> Heap -> Prop} {kw : List (Str × Value)}
theorem mx_name : (toString "max" ++ toString ".loop" : String) = "max.loop" := by decide
theorem mx_loop (W : Walks P w A.in1 it fp wr n Pz St) (bt : Nat -> Nat -> Bool) (cmp : CmpOf P w A.in1 .Gt Pz bt) (b : Addr) (bf : b ∉ fp) : ∀ (k j : Nat) (s : Shared) (u : Value) (c : Nat), n - (j + 1) = k -> j + 1 <= n -> St (j + 1) s.heap -> Pz (argBest bt j) u ->
    s.heap.get? b = some { cls := .type "list", dict := none, data := .seq #[u, u] c, slots := #[] } ->
    (∀ v h' tk, Pz (argBest bt (n - 1)) v -> (∀ x o, x ∉ wr -> x ≠ b -> s.heap.get? x = some o -> h'.get? x = some o) -> R (.ok (.ret v)) { s with heap := h', toks := tk }) ->
    codeAny (model P w) A (.builtin "max.loop" ⟨[.ref it, .none, .ref b], kw⟩) R s := by
  have bw : b ∉ wr := fun z => bf (W.sub _ z)
  intro k
  induction k with
  | zero =>
    intro j s u c e1 e2 st hu hb fin
    have en : j + 1 = n := by omega
    refine codeAny_builtin F.entry_max_loop ?_
    rw [Around.under_plainId F.plain_max_loop _]
    refine wpAny_bind (wpAny_seqItems hb rfl ?_)
    refine wpAny_bind (wpAny_tryCatch (W.done s _ _ (en ▸ st) fun h1 tk kk => ?_))
    refine wpAny_bind (wpAny_updateSeq (kk b _ bw hb) rfl (wpAny_bind (wpAny_letGo (wpAny_pure ?_))))
    exact fin u _ tk (by rw [<- en]; exact hu) fun x o xw xb e => (Heap.get?_update_other _ _ (Ne.symm xb)).trans (kk x o xw e)
  | succ k ih =>
    intro j s u c e1 e2 st hu hb fin
    have lt : j + 1 < n := by omega
    refine codeAny_builtin F.entry_max_loop ?_
    rw [Around.under_plainId F.plain_max_loop _]
    refine wpAny_bind (wpAny_seqItems hb rfl ?_)
    refine wpAny_bind (wpAny_tryCatch (W.item (j + 1) s _ _ lt st fun v h1 tk hv st1 kk => ?_))
    have hb1 := kk b _ bw hb
    refine wpAny_bind (wpAny_pure ?_)
    refine wpAny_bind (wpAny_tryCatch (wpAny_holding (wpAny_bind (cmp (j + 1) (argBest bt j) v u _ _ _ hv hu ?_))))
    refine wpAny_bind (wpAny_holding (wpAny_truthy_bool (wpAny_bind (wpAny_letGo (wpAny_pure ?_)))))
    cases hc : bt (j + 1) (argBest bt j) with
    | true =>
      simp only [if_true]
      refine wpAny_bind (wpAny_updateSeq hb1 rfl (wpAny_bind (wpAny_letGo ?_)))
      rw [mx_name]
      refine wpAny_pure ⟨plainId_quiet F.plain_max_loop _, ih (j + 1) _ v _ (by omega) lt (W.frame _ _ _ st1 fun x xf o e => ?_) (by simp only [argBest, hc, if_true]; exact hv) (Heap.get?_update_self _ hb1 rfl) fun v' h2 tk2 hv' kk2 => ?_⟩
      · exact (Heap.get?_update_other _ _ (fun z : b = x => bf (by rw [z]; exact xf))).trans e
      · exact fin v' h2 tk2 hv' fun x o xw xb e => kk2 x o xw xb ((Heap.get?_update_other _ _ (Ne.symm xb)).trans (kk x o xw e))
    | false =>
      simp only [Bool.false_eq_true, if_false]
      refine wpAny_bind (wpAny_letGo ?_)
      rw [mx_name]
      refine wpAny_pure ⟨plainId_quiet F.plain_max_loop _, ih (j + 1) _ u c (by omega) lt st1 (by simp only [argBest, hc, Bool.false_eq_true, if_false]; exact hu) hb1 fun v' h2 tk2 hv' kk2 => ?_⟩
      exact fin v' h2 tk2 hv' fun x o xw xb e => kk2 x o xw xb (kk x o xw e)
theorem mx_first (W : Walks P w A.in1 it fp wr n Pz St) (bt : Nat -> Nat -> Bool) (cmp : CmpOf P w A.in1 .Gt Pz bt) (b : Addr) (bf : b ∉ fp) {s : Shared} {c : Nat} {x0 : Str} {d : Value} {r : List (Str × Value)} (st : St 0 s.heap)
    (hb : s.heap.get? b = some { cls := .type "list", dict := none, data := .seq #[] c, slots := #[] })
    (fin : ∀ v h' tk, (0 < n -> Pz (argBest bt (n - 1)) v) -> (n = 0 -> v = d) -> (∀ x o, x ∉ wr -> x ≠ b -> s.heap.get? x = some o -> h'.get? x = some o) -> R (.ok (.ret v)) { s with heap := h', toks := tk }) :
    codeAny (model P w) A (.builtin "max.loop" ⟨[.ref it, .none, .ref b], (x0, d) :: r⟩) R s := by
  have bw : b ∉ wr := fun z => bf (W.sub _ z)
  refine codeAny_builtin F.entry_max_loop ?_
  rw [Around.under_plainId F.plain_max_loop _]
  refine wpAny_bind (wpAny_seqItems hb rfl ?_)
  by_cases h0 : n = 0
  · subst h0
    refine wpAny_bind (wpAny_tryCatch (W.done s _ _ st fun h1 tk kk => ?_))
    refine wpAny_bind (wpAny_rule (wpAny_pure ?_))
    exact fin d h1 tk (fun z => absurd z (Nat.lt_irrefl _)) (fun _ => rfl) fun x o xw _ e => kk x o xw e
  · have hn : 0 < n := Nat.pos_of_ne_zero h0
    refine wpAny_bind (wpAny_tryCatch (W.item 0 s _ _ hn st fun v h1 tk hv st1 kk => ?_))
    have hb1 := kk b _ bw hb
    refine wpAny_bind (wpAny_pure ?_)
    refine wpAny_bind (wpAny_updateSeq hb1 rfl ?_)
    rw [mx_name]
    refine wpAny_pure ⟨plainId_quiet F.plain_max_loop _, mx_loop W bt cmp b bf _ 0 _ v _ rfl hn (W.frame _ _ _ st1 fun x xf o e => ?_) hv (Heap.get?_update_self _ hb1 rfl) fun v' h2 tk2 hv' kk2 => ?_⟩
    · exact (Heap.get?_update_other _ _ (fun z : b = x => bf (by rw [z]; exact xf))).trans e
    · exact fin v' h2 tk2 (fun _ => hv') (fun z => absurd z h0) fun x o xw xb e => kk2 x o xw xb ((Heap.get?_update_other _ _ (Ne.symm xb)).trans (kk x o xw e))
end
theorem bind_maxD (d : Value) : Builtin.Builtins.bindParams "max" ["key", "default"] 0 ⟨[], [(Str.ofString "default", d)]⟩ = pure [none, some d] := by rfl
theorem args_maxD (a d : Value) : argsOk "max" ⟨[a], [("default", d)]⟩ := by unfold argsOk; kernel_rfl
section
variable {P : Program} {w : World} {A : Around} {E : Value -> Shared -> Prop} {s : Shared} {l : Addr} {xs : Array (Int × Tok)} {d : Value}
theorem mx_ints {Q : Value -> Shared -> Prop} (hh : A.handled = none) (hl : s.heap.IsList l (intItems xs))
    (h : ∀ v h' tk, (0 < xs.size -> (intItems xs)[argBest (fun i j => decide (numAt xs i > numAt xs j)) (xs.size - 1)]? = some v) -> (xs.size = 0 -> v = d) -> (∀ b o, s.heap.get? b = some o -> h'.get? b = some o) -> Q v { s with heap := h', toks := tk }) :
    wpAny (model P w) A (call (.builtin "max") [.ref l] [("default", d)]) Q E s := by
  refine kmk_tree F.kind_max F.plain_max F.entry_max (args_maxD _ _) ?_
  show wpAny _ A.in1 (Builtin.Builtins.bindParams "max" ["key", "default"] 0 ⟨[], [("default", d)]⟩ >>= _) _ _ s
  refine wpAny_bind (wpAny_of_eq (bind_maxD d) ?_)
  refine wpAny_bind (wpAny_pure ?_)
  refine wpAny_bind (iter_intList hl fun s2 e st hfp hlI => ?_)
  subst e
  refine wpAny_bind (wpAny_newObj_type ?_)
  rw [mx_name]
  have hW := Walks.list (prog := P) (w := w) (A := A.in1) hh s.heap.objs.size l hlI (intItems xs)
  refine wpAny_pure ⟨plainId_quiet F.plain_max_loop _, mx_first hW _ (CmpOf.ints_gt (numAt xs) (fun _ _ => intItems_at)) _ (fun hm => Nat.lt_irrefl _ (hfp _ hm)) (hW.frame _ _ _ st fun b _ o e => Heap.get?_push_of_some _ e) (Heap.get?_push_size _ rfl) fun v h' tk h1 h2 hk => ?_⟩
  refine h v h' tk (fun z => by simpa [intItems] using h1 (by simpa [intItems] using z)) (fun z => h2 (by simpa [intItems] using z)) (old_kept fun b o hb e => hk b o hb (Nat.ne_of_lt (Heap.lt_size e)) (Heap.get?_push_of_some _ e))
end
end L2
end
section
set_option Elab.async false
set_option linter.all false
set_option maxRecDepth 100000
set_option maxHeartbeats 400000
namespace L2
open PySem PySem.Spec PyProof.Rows
section
variable {X : Cx}
theorem mx_raw {A : Around} {E : Value -> Shared -> Prop} {s : Shared} {l : Addr} {its : List Value} {ns : List Int} {d : Int} {td : Tok} {Q : Value -> Shared -> Prop} (hh : A.handled = none) (hl : s.heap.IsList l its.toArray) (hi : IntsAre its ns)
    (h : ∀ h' tk m t', (∀ b o, s.heap.get? b = some o -> h'.get? b = some o) -> (ns = [] -> m = d) -> (ns ≠ [] -> m ∈ ns /\ ∀ y, y ∈ ns -> y <= m) -> Q (.int m t') { s with heap := h', toks := tk }) : wpAny (model X.prog X.w) A (call (.builtin "max") [.ref l] [("default", .int d td)]) Q E s := by
  obtain ⟨xs, e⟩ := hi.allInts.items
  have hn : numsOf (intItems xs).toList = ns := by rw [<- e]; exact hi.numsOf
  rw [nums_intItems] at hn
  subst hn
  rw [e] at hl
  have em : (xs.toList.map (·.1)) = [] ↔ xs.size = 0 := by simp
  refine mx_ints hh hl fun v h' tk h1 h2 hk => ?_
  by_cases h0 : xs.size = 0
  · rw [h2 h0]
    exact h h' tk d td hk (fun _ => rfl) fun z => absurd (em.mpr h0) z
  · obtain ⟨t, rfl⟩ := intItems_at (h1 (Nat.pos_of_ne_zero h0))
    obtain ⟨g1, g2⟩ := argBest_gt (numAt xs) (xs.size - 1)
    refine h h' tk _ t hk (fun z => absurd (em.mp z) h0) fun _ => ⟨?_, fun y hy => ?_⟩
    · rw [numAt_eq]; exact PySem.getD_mem (by rw [List.length_map, Array.length_toList]; omega)
    · obtain ⟨j, hj, rfl⟩ := mem_getD hy
      rw [List.length_map, Array.length_toList] at hj
      rw [<- numAt_eq]; exact g2 j (by omega)
def tMaxD (K : PySem.W.Frag) (d : Int) (te : TE) : TE := fun σ H Q => te σ H fun x H1 => ∃ a ns, x = .ref a /\ SqL K H1 a (ns.map V.int) /\ ∀ m, (ns = [] -> m = d) -> (ns ≠ [] -> m ∈ ns /\ ∀ y, y ∈ ns -> y <= m) -> Q (.int m) H1
theorem pe_maxD {e : Expr} {te : TE} {d : Int} {j : Nat} {p pos kp dp : Pos} (hc : X.calm = true) (hg : Gl X "max") (hm : X.mg "max" = none) (he : PE X e te) (hst : starEach [e] X.env = [(false, eval e X.env)] := by rfl)
    (h1 : backTo pos (starEach [e] X.env) = (false, eval e X.env) :: backTo pos (starEach [] X.env) := by rfl) (h2 : (backTo pos (starEach [e] X.env)).any (·.1) = false := by rfl) :
    PE X (.Call (.Name "max" p) [e] [⟨some "default", .Constant (.int d) j dp, kp⟩] pos) (tMaxD X.K d te) := by
  intro pins s σ H Q I h
  refine wpAny_Call_Name_kw (ld_blt I hg hm boot_max ?_ (by decide) (by decide))
  refine callWith_kw (thn (pa_cons he pa_nil hst pos pins s σ H (fun vs H1 => match vs with
    | [x] => ∃ a ns, x = .ref a /\ SqL X.K H1 a (ns.map V.int) /\ ∀ m, (ns = [] -> m = d) -> (ns ≠ [] -> m ∈ ns /\ ∀ y, y ∈ ns -> y <= m) -> Q (.int m) H1
    | _ => False) I h) fun us s1 ⟨vs, H1, I1, r, q⟩ => ?_) h1 h2 rfl rfl
  match vs, r, q with
  | [x], r, ⟨a, ns, ex, hs, q⟩ =>
    subst ex
    rw [Vals.ref1 r]
    refine kws_cons (wpAny_Constant_int (kws_nil ?_))
    have I2 := I1.tok (s1.toks + 1)
    obtain ⟨its, rv, hl, _⟩ := I2.list hs
    exact mx_raw (I2.ok.hd hc) hl.isList rv.ints fun h' tk m t' hk g1 g2 => ⟨.int m, H1, I2.kept hk, ⟨_, rfl⟩, q m g1 g2⟩
end
theorem fm_congr {α β : Type} {f g : α -> Option β} : ∀ {l : List α}, (∀ x, x ∈ l -> f x = g x) -> l.filterMap f = l.filterMap g
  | [], _ => rfl
  | a :: l, h => by
    rw [List.filterMap_cons, List.filterMap_cons, h a List.mem_cons_self, fm_congr fun x hx => h x (List.mem_cons_of_mem _ hx)]
theorem range_pick {α : Type} : ∀ l : List α, List.filterMap (fun k => l[k]?) (List.range l.length) = l
  | [] => rfl
  | a :: l => by
    rw [List.length_cons, List.range_succ_eq_map, List.filterMap_cons]
    simp only [List.getElem?_cons_zero, List.filterMap_map]
    congr 1
    refine Eq.trans (fm_congr fun k _ => ?_) (range_pick l)
    simp
theorem pick_rev (its : List Value) : slicePick its.toArray none none (some (-1)) = its.reverse.toArray := by
  unfold slicePick
  congr 1
  have e1 : sliceBounds none none (some (-1)) its.toArray.size = ((its.length : Int) - 1, -1, -1) := by simp [sliceBounds]
  rw [e1]
  unfold sliceRange
  simp only [show ¬ ((-1 : Int) > 0) by decide, if_false]
  have e2 : (if ((its.length : Int) - 1) > -1 then (((its.length : Int) - 1) - -1 - -1 - 1) / - -1 else 0).toNat = its.length := by
    by_cases h : its.length = 0
    · simp [h]
    · rw [if_pos (by omega), show (- -1 : Int) = 1 from rfl, Int.ediv_one]; omega
  rw [e2]
  refine List.ext_getElem? fun i => ?_
  rw [List.filterMap_map]
  have all : ∀ k, k < its.length -> ((fun x : Nat => its.toArray[x]?) ∘ fun k : Nat => (((its.length : Int) - 1) + -1 * (k : Int)).toNat) k = its[its.length - 1 - k]? := fun k hk => by
    show its.toArray[(((its.length : Int) - 1) + -1 * (k : Int)).toNat]? = _
    rw [show (((its.length : Int) - 1) + -1 * (k : Int)).toNat = its.length - 1 - k by omega]
    simp
  have lst : List.filterMap ((fun x : Nat => its.toArray[x]?) ∘ fun k : Nat => (((its.length : Int) - 1) + -1 * (k : Int)).toNat) (List.range its.length) = its.reverse := by
    rw [show List.filterMap ((fun x : Nat => its.toArray[x]?) ∘ fun k : Nat => (((its.length : Int) - 1) + -1 * (k : Int)).toNat) (List.range its.length) = List.filterMap (fun k => its.reverse[k]?) (List.range its.reverse.length) from ?_]
    · exact range_pick its.reverse
    · rw [List.length_reverse]
      refine fm_congr fun k hk => ?_
      have hk := List.mem_range.mp hk
      rw [all k hk, List.getElem?_reverse hk]
  rw [lst]
def tRev (K : PySem.W.Frag) (te : TE) : TE := fun σ H Q => te σ H fun x H1 => ∃ a xs, x = .ref a /\ SqL K H1 a xs /\ ∀ p, H1 p = none -> Q (.ref p) (upd H1 p (.lst xs.reverse))
theorem pe_rev {X : Cx} {e : Expr} {te : TE} {j : Nat} {p1 p2 p3 pos : Pos} (he : PE X e te) : PE X (.Subscript e (.Slice none none (some (.UnaryOp .USub (.Constant (.int 1) j p1) p3)) p2) pos) (tRev X.K te) := by
  intro pins s σ H Q I h
  refine Subscript_ (thn (he pins s σ H _ I h) fun v s1 ⟨x, H1, I1, r1, a, xs, ex, hs, q1⟩ => ?_)
  subst ex
  cases r1
  refine wpAny_Slice ?_
  rw [evalPart_none]
  refine wpAny_pure (wpAny_pure (thn (po_some (pe_un un_neg pe_int) pins s1 σ H1 (fun o H' => o = some (-1) /\ H' = H1) I1 ⟨1, rfl, -1, rfl, rfl, rfl⟩) fun vs s3 ⟨o, H3, I3, pu, eo, eH⟩ => ?_))
  subst eo eH
  have I4 : Inv X pins σ H3 { s3 with heap := s3.heap.push { cls := .type "slice", data := .fields #[.none, .none, vs] } } := I3.kept (t' := s3.toks) fun b ob q => Heap.get?_push_of_some _ q
  obtain ⟨its, r, ht, hz⟩ := I4.list hs
  have hlen := r.length
  refine tail_any (ops := [.ref a, .ref s3.heap.objs.size]) ht.isList.typeIs slot_list_getitem.lookup ?_ (by with_unfolding_all rfl)
  refine wpAny_getItem_list_slice ht.isList (Heap.IsSliceOf.new ..) .none .none pu (by simp) ?_ (by rw [List.size_toArray] <;> omega)
  rw [pick_rev]
  refine ⟨.ref _, _, I4.laid (t' := s3.toks) (o := .lst xs.reverse) (fun b ob q => Heap.get?_push_of_some _ q) (Nat.le_refl _) ?_, rfl, q1 _ (I4.hok.fresh (Nat.le_refl _))⟩
  exact ⟨by rw [List.length_reverse]; exact hz, _, 0, r.reverse, Heap.get?_push_size _ rfl⟩
end L2
end
section
set_option Elab.async false
set_option linter.all false
set_option maxRecDepth 100000
set_option maxHeartbeats 2000000
namespace RT
open PySem PySem.Spec PyProof.Rows L2
def wordsS : List Str := [Str.ofString "and", Str.ofString "else", Str.ofString "false", Str.ofString "fn", Str.ofString "has", Str.ofString "if", Str.ofString "in", Str.ofString "let", Str.ofString "must", Str.ofString "none", Str.ofString "not", Str.ofString "or", Str.ofString "rec", Str.ofString "then", Str.ofString "true", Str.ofString "with"]
def signsS : List Str := [Str.ofString "++", Str.ofString "//", Str.ofString "==", Str.ofString "!=", Str.ofString "<=", Str.ofString "..", Str.ofString "(", Str.ofString ")", Str.ofString "[", Str.ofString "]", Str.ofString "=", Str.ofString ";", Str.ofString ",", Str.ofString ".", Str.ofString ":", Str.ofString "?", Str.ofString "+", Str.ofString "-", Str.ofString "*", Str.ofString "<"]
def atomsS : List Str := [Str.ofString "name", Str.ofString "number", Str.ofString "true", Str.ofString "false", Str.ofString "none", Str.ofString "rec", Str.ofString "quote", Str.ofString "(", Str.ofString "[", Str.ofString "{"]
def escD : List (Key × V) := [(Sum.inl 34, .int 34), (Sum.inl 92, .int 92), (Sum.inl 110, .int 10), (Sum.inl 116, .int 9), (Sum.inl 36, .int 36)]
def gramS : List (Str × List Str) := [(Str.ofString "EXPR", [Str.ofString "@enter FORM @leave"]),
  (Str.ofString "FORM", [Str.ofString "fn FUNCTION", Str.ofString "let @begin name BOUND BINDS in EXPR @let", Str.ofString "if @begin EXPR then EXPR else EXPR @if", Str.ofString "must @begin EXPR ; EXPR @must", Str.ofString "OR"]),
  (Str.ofString "FUNCTION", [Str.ofString "name @begin @label : EXPR @fn", Str.ofString "{ @begin FIELDS"]),
  (Str.ofString "FIELDS", [Str.ofString "} : EXPR @fields", Str.ofString "PARAMS"]),
  (Str.ofString "PARAMS", [Str.ofString ".. } : EXPR @fields..", Str.ofString "name @fresh @begin @label GIVEN @param MORE-PARAMS"]),
  (Str.ofString "GIVEN", [Str.ofString "? EXPR", Str.ofString ""]),
  (Str.ofString "MORE-PARAMS", [Str.ofString ", PARAMS", Str.ofString "} : EXPR @fields"]),
  (Str.ofString "BINDS", [Str.ofString "name BOUND BINDS", Str.ofString ""]),
  (Str.ofString "BOUND", [Str.ofString "@fresh @label = EXPR ;"]),
  (Str.ofString "OR", [Str.ofString "AND MORE-OR"]),
  (Str.ofString "MORE-OR", [Str.ofString "or @take AND @or MORE-OR", Str.ofString ""]),
  (Str.ofString "AND", [Str.ofString "NOT MORE-AND"]),
  (Str.ofString "MORE-AND", [Str.ofString "and @take NOT @and MORE-AND", Str.ofString ""]),
  (Str.ofString "NOT", [Str.ofString "not @begin NOT @not", Str.ofString "CMP"]),
  (Str.ofString "CMP", [Str.ofString "UPD MORE-CMP"]),
  (Str.ofString "MORE-CMP", [Str.ofString "== @take UPD @==", Str.ofString "!= @take UPD @!=", Str.ofString "< @take UPD @<", Str.ofString "<= @take UPD @<=", Str.ofString "has @take name @label @has", Str.ofString ""]),
  (Str.ofString "UPD", [Str.ofString "JOIN MORE-UPD"]),
  (Str.ofString "MORE-UPD", [Str.ofString "// @take UPD @//", Str.ofString ""]),
  (Str.ofString "JOIN", [Str.ofString "SUM MORE-JOIN"]),
  (Str.ofString "MORE-JOIN", [Str.ofString "++ @take JOIN @++", Str.ofString ""]),
  (Str.ofString "SUM", [Str.ofString "PROD MORE-SUM"]),
  (Str.ofString "MORE-SUM", [Str.ofString "+ @take PROD @+ MORE-SUM", Str.ofString "- @take PROD @- MORE-SUM", Str.ofString ""]),
  (Str.ofString "PROD", [Str.ofString "NEG MORE-PROD"]),
  (Str.ofString "MORE-PROD", [Str.ofString "* @take NEG @* MORE-PROD", Str.ofString ""]),
  (Str.ofString "NEG", [Str.ofString "- @begin NEG @neg", Str.ofString "APP"]),
  (Str.ofString "APP", [Str.ofString "SEL ARGUMENTS"]),
  (Str.ofString "ARGUMENTS", [Str.ofString "ARGUMENT ARGUMENTS", Str.ofString ""]),
  (Str.ofString "ARGUMENT", [Str.ofString "@take SEL @app"]),
  (Str.ofString "SEL", [Str.ofString "ATOM DOTS"]),
  (Str.ofString "DOTS", [Str.ofString ". @take name @label MORE-DOTS DEFAULT @get", Str.ofString ""]),
  (Str.ofString "MORE-DOTS", [Str.ofString ". name @label MORE-DOTS", Str.ofString ""]),
  (Str.ofString "DEFAULT", [Str.ofString "? ATOM", Str.ofString ""]),
  (Str.ofString "ATOM", [Str.ofString "name @begin @label @name", Str.ofString "number @begin @label @num", Str.ofString "true @begin @yes", Str.ofString "false @begin @no", Str.ofString "none @begin @none", Str.ofString "quote @begin PIECES unquote @text", Str.ofString "( EXPR )", Str.ofString "[ @begin LIST @list", Str.ofString "{ @begin BINDS } @record", Str.ofString "rec { @begin BINDS } @recur"]),
  (Str.ofString "PIECES", [Str.ofString "piece @begin @label @piece PIECES", Str.ofString "hole EXPR unhole PIECES", Str.ofString ""]),
  (Str.ofString "LIST", [Str.ofString "]", Str.ofString "EXPR MORE-LIST ]"]),
  (Str.ofString "MORE-LIST", [Str.ofString ", EXPR MORE-LIST", Str.ofString ""])]
def tokF (x0 x1 x2 : V) : List (Str × V) := [("kind", x0), ("place", x1), ("held", x2)]
theorem tokF_kind (x0 x1 x2 : V) : (tokF x0 x1 x2).lookup ("kind" : Str) = some x0 := rfl
theorem tokF_place (x0 x1 x2 : V) : (tokF x0 x1 x2).lookup ("place" : Str) = some x1 := rfl
theorem tokF_held (x0 x1 x2 : V) : (tokF x0 x1 x2).lookup ("held" : Str) = some x2 := rfl
def cutF (x0 x1 x2 x3 x4 x5 : V) : List (Str × V) := [("text", x0), ("place", x1), ("tokens", x2), ("opened", x3), ("in_literal", x4), ("ended", x5)]
theorem cutF_text (x0 x1 x2 x3 x4 x5 : V) : (cutF x0 x1 x2 x3 x4 x5).lookup ("text" : Str) = some x0 := rfl
theorem cutF_place (x0 x1 x2 x3 x4 x5 : V) : (cutF x0 x1 x2 x3 x4 x5).lookup ("place" : Str) = some x1 := rfl
theorem cutF_tokens (x0 x1 x2 x3 x4 x5 : V) : (cutF x0 x1 x2 x3 x4 x5).lookup ("tokens" : Str) = some x2 := rfl
theorem cutF_opened (x0 x1 x2 x3 x4 x5 : V) : (cutF x0 x1 x2 x3 x4 x5).lookup ("opened" : Str) = some x3 := rfl
theorem cutF_in_literal (x0 x1 x2 x3 x4 x5 : V) : (cutF x0 x1 x2 x3 x4 x5).lookup ("in_literal" : Str) = some x4 := rfl
theorem cutF_ended (x0 x1 x2 x3 x4 x5 : V) : (cutF x0 x1 x2 x3 x4 x5).lookup ("ended" : Str) = some x5 := rfl
theorem cutF_no_byte_at (x0 x1 x2 x3 x4 x5 : V) : (cutF x0 x1 x2 x3 x4 x5).lookup ("byte_at" : Str) = none := rfl
theorem cutF_no_add_token (x0 x1 x2 x3 x4 x5 : V) : (cutF x0 x1 x2 x3 x4 x5).lookup ("add_token" : Str) = none := rfl
theorem cutF_no_cut_outside (x0 x1 x2 x3 x4 x5 : V) : (cutF x0 x1 x2 x3 x4 x5).lookup ("cut_outside" : Str) = none := rfl
theorem cutF_no_pass_comment (x0 x1 x2 x3 x4 x5 : V) : (cutF x0 x1 x2 x3 x4 x5).lookup ("pass_comment" : Str) = none := rfl
theorem cutF_no_cut_name (x0 x1 x2 x3 x4 x5 : V) : (cutF x0 x1 x2 x3 x4 x5).lookup ("cut_name" : Str) = none := rfl
theorem cutF_no_cut_number (x0 x1 x2 x3 x4 x5 : V) : (cutF x0 x1 x2 x3 x4 x5).lookup ("cut_number" : Str) = none := rfl
theorem cutF_no_cut_right_brace (x0 x1 x2 x3 x4 x5 : V) : (cutF x0 x1 x2 x3 x4 x5).lookup ("cut_right_brace" : Str) = none := rfl
theorem cutF_no_cut_sign (x0 x1 x2 x3 x4 x5 : V) : (cutF x0 x1 x2 x3 x4 x5).lookup ("cut_sign" : Str) = none := rfl
theorem cutF_no_cut_literal (x0 x1 x2 x3 x4 x5 : V) : (cutF x0 x1 x2 x3 x4 x5).lookup ("cut_literal" : Str) = none := rfl
theorem cutF_no_cut_piece (x0 x1 x2 x3 x4 x5 : V) : (cutF x0 x1 x2 x3 x4 x5).lookup ("cut_piece" : Str) = none := rfl
theorem cutF_no_is_piece_over (x0 x1 x2 x3 x4 x5 : V) : (cutF x0 x1 x2 x3 x4 x5).lookup ("is_piece_over" : Str) = none := rfl
theorem cutF_no_gather_byte (x0 x1 x2 x3 x4 x5 : V) : (cutF x0 x1 x2 x3 x4 x5).lookup ("gather_byte" : Str) = none := rfl
def nodF (x0 x1 x2 x3 : V) : List (Str × V) := [("kind", x0), ("labels", x1), ("kids", x2), ("depth", x3)]
theorem nodF_kind (x0 x1 x2 x3 : V) : (nodF x0 x1 x2 x3).lookup ("kind" : Str) = some x0 := rfl
theorem nodF_labels (x0 x1 x2 x3 : V) : (nodF x0 x1 x2 x3).lookup ("labels" : Str) = some x1 := rfl
theorem nodF_kids (x0 x1 x2 x3 : V) : (nodF x0 x1 x2 x3).lookup ("kids" : Str) = some x2 := rfl
theorem nodF_depth (x0 x1 x2 x3 : V) : (nodF x0 x1 x2 x3).lookup ("depth" : Str) = some x3 := rfl
def begF (x0 x1 x2 : V) : List (Str × V) := [("first", x0), ("labels", x1), ("names", x2)]
theorem begF_first (x0 x1 x2 : V) : (begF x0 x1 x2).lookup ("first" : Str) = some x0 := rfl
theorem begF_labels (x0 x1 x2 : V) : (begF x0 x1 x2).lookup ("labels" : Str) = some x1 := rfl
theorem begF_names (x0 x1 x2 : V) : (begF x0 x1 x2).lookup ("names" : Str) = some x2 := rfl
def reaF (x0 x1 x2 x3 x4 x5 : V) : List (Str × V) := [("tokens", x0), ("at", x1), ("level", x2), ("waiting", x3), ("built", x4), ("begun", x5)]
theorem reaF_tokens (x0 x1 x2 x3 x4 x5 : V) : (reaF x0 x1 x2 x3 x4 x5).lookup ("tokens" : Str) = some x0 := rfl
theorem reaF_at (x0 x1 x2 x3 x4 x5 : V) : (reaF x0 x1 x2 x3 x4 x5).lookup ("at" : Str) = some x1 := rfl
theorem reaF_level (x0 x1 x2 x3 x4 x5 : V) : (reaF x0 x1 x2 x3 x4 x5).lookup ("level" : Str) = some x2 := rfl
theorem reaF_waiting (x0 x1 x2 x3 x4 x5 : V) : (reaF x0 x1 x2 x3 x4 x5).lookup ("waiting" : Str) = some x3 := rfl
theorem reaF_built (x0 x1 x2 x3 x4 x5 : V) : (reaF x0 x1 x2 x3 x4 x5).lookup ("built" : Str) = some x4 := rfl
theorem reaF_begun (x0 x1 x2 x3 x4 x5 : V) : (reaF x0 x1 x2 x3 x4 x5).lookup ("begun" : Str) = some x5 := rfl
theorem reaF_no_step (x0 x1 x2 x3 x4 x5 : V) : (reaF x0 x1 x2 x3 x4 x5).lookup ("step" : Str) = none := rfl
theorem reaF_no_read_token (x0 x1 x2 x3 x4 x5 : V) : (reaF x0 x1 x2 x3 x4 x5).lookup ("read_token" : Str) = none := rfl
theorem reaF_no_act (x0 x1 x2 x3 x4 x5 : V) : (reaF x0 x1 x2 x3 x4 x5).lookup ("act" : Str) = none := rfl
theorem reaF_no_enter_level (x0 x1 x2 x3 x4 x5 : V) : (reaF x0 x1 x2 x3 x4 x5).lookup ("enter_level" : Str) = none := rfl
theorem reaF_no_end_node (x0 x1 x2 x3 x4 x5 : V) : (reaF x0 x1 x2 x3 x4 x5).lookup ("end_node" : Str) = none := rfl
structure Ad where
  Token : Addr
  Cutter : Addr
  Node : Addr
  Begun : Addr
  Reader : Addr
  Refusal : Addr
  TextTooLong : Addr
  WrongToken : Addr
  WrongSyntax : Addr
  LevelTooDeep : Addr
  NameTwice : Addr
  TreeTooDeep : Addr
  WORDS : Addr
  SIGNS : Addr
  ATOM_BEGINNINGS : Addr
  ESCAPES : Addr
  GRAMMAR : Addr
  gram : Str -> Addr
structure Tx (P : Program) (w : World) (K : PySem.W.Frag) (mg : Str -> Option Value) (a : Ad) : Prop where
  c_Token : Cls K a.Token
  n_Token_kind : NoAttr K a.Token "kind"
  n_Token_place : NoAttr K a.Token "place"
  n_Token_held : NoAttr K a.Token "held"
  c_Cutter : Cls K a.Cutter
  n_Cutter_text : NoAttr K a.Cutter "text"
  n_Cutter_place : NoAttr K a.Cutter "place"
  n_Cutter_tokens : NoAttr K a.Cutter "tokens"
  n_Cutter_opened : NoAttr K a.Cutter "opened"
  n_Cutter_in_literal : NoAttr K a.Cutter "in_literal"
  n_Cutter_ended : NoAttr K a.Cutter "ended"
  c_Node : Cls K a.Node
  n_Node_kind : NoAttr K a.Node "kind"
  n_Node_labels : NoAttr K a.Node "labels"
  n_Node_kids : NoAttr K a.Node "kids"
  n_Node_depth : NoAttr K a.Node "depth"
  c_Begun : Cls K a.Begun
  n_Begun_first : NoAttr K a.Begun "first"
  n_Begun_labels : NoAttr K a.Begun "labels"
  n_Begun_names : NoAttr K a.Begun "names"
  c_Reader : Cls K a.Reader
  n_Reader_tokens : NoAttr K a.Reader "tokens"
  n_Reader_at : NoAttr K a.Reader "at"
  n_Reader_level : NoAttr K a.Reader "level"
  n_Reader_waiting : NoAttr K a.Reader "waiting"
  n_Reader_built : NoAttr K a.Reader "built"
  n_Reader_begun : NoAttr K a.Reader "begun"
  x_Refusal : XCls K a.Refusal
  n_Refusal_number : NoAttr K a.Refusal "number"
  n_Refusal_place : NoAttr K a.Refusal "place"
  u_Refusal : subB K a.Refusal a.Refusal
  x_TextTooLong : XCls K a.TextTooLong
  n_TextTooLong_number : NoAttr K a.TextTooLong "number"
  n_TextTooLong_place : NoAttr K a.TextTooLong "place"
  u_TextTooLong : subB K a.TextTooLong a.Refusal
  x_WrongToken : XCls K a.WrongToken
  n_WrongToken_number : NoAttr K a.WrongToken "number"
  n_WrongToken_place : NoAttr K a.WrongToken "place"
  u_WrongToken : subB K a.WrongToken a.Refusal
  x_WrongSyntax : XCls K a.WrongSyntax
  n_WrongSyntax_number : NoAttr K a.WrongSyntax "number"
  n_WrongSyntax_place : NoAttr K a.WrongSyntax "place"
  u_WrongSyntax : subB K a.WrongSyntax a.Refusal
  x_LevelTooDeep : XCls K a.LevelTooDeep
  n_LevelTooDeep_number : NoAttr K a.LevelTooDeep "number"
  n_LevelTooDeep_place : NoAttr K a.LevelTooDeep "place"
  u_LevelTooDeep : subB K a.LevelTooDeep a.Refusal
  x_NameTwice : XCls K a.NameTwice
  n_NameTwice_number : NoAttr K a.NameTwice "number"
  n_NameTwice_place : NoAttr K a.NameTwice "place"
  u_NameTwice : subB K a.NameTwice a.Refusal
  x_TreeTooDeep : XCls K a.TreeTooDeep
  n_TreeTooDeep_number : NoAttr K a.TreeTooDeep "number"
  n_TreeTooDeep_place : NoAttr K a.TreeTooDeep "place"
  u_TreeTooDeep : subB K a.TreeTooDeep a.Refusal
  g_TAB : GlV mg "TAB" (.int (9))
  g_LINE_FEED : GlV mg "LINE_FEED" (.int (10))
  g_RETURN : GlV mg "RETURN" (.int (13))
  g_BLANK : GlV mg "BLANK" (.int (32))
  g_QUOTE : GlV mg "QUOTE" (.int (34))
  g_HASH : GlV mg "HASH" (.int (35))
  g_DOLLAR : GlV mg "DOLLAR" (.int (36))
  g_MINUS : GlV mg "MINUS" (.int (45))
  g_ZERO : GlV mg "ZERO" (.int (48))
  g_BACKSLASH : GlV mg "BACKSLASH" (.int (92))
  g_UNDERSCORE : GlV mg "UNDERSCORE" (.int (95))
  g_LEFT_BRACE : GlV mg "LEFT_BRACE" (.int (123))
  g_RIGHT_BRACE : GlV mg "RIGHT_BRACE" (.int (125))
  g_MOST_NAME_BYTES : GlV mg "MOST_NAME_BYTES" (.int (32))
  g_MOST_DIGITS : GlV mg "MOST_DIGITS" (.int (30))
  g_NOTHING : GlV mg "NOTHING" (.int (-1))
  g_MOST_TEXT_BYTES : GlV mg "MOST_TEXT_BYTES" (.int (2048))
  g_MOST_LEVELS : GlV mg "MOST_LEVELS" (.int (40))
  g_MOST_DEPTH : GlV mg "MOST_DEPTH" (.int (40))
  g_WORDS : GlV mg "WORDS" (.ref a.WORDS)
  t_WORDS : KTup K a.WORDS (wordsS.map V.str)
  g_SIGNS : GlV mg "SIGNS" (.ref a.SIGNS)
  t_SIGNS : KTup K a.SIGNS (signsS.map V.str)
  g_ATOM_BEGINNINGS : GlV mg "ATOM_BEGINNINGS" (.ref a.ATOM_BEGINNINGS)
  t_ATOM_BEGINNINGS : KTup K a.ATOM_BEGINNINGS (atomsS.map V.str)
  g_ESCAPES : GlV mg "ESCAPES" (.ref a.ESCAPES)
  d_ESCAPES : KDict P w K a.ESCAPES escD
  g_GRAMMAR : GlV mg "GRAMMAR" (.ref a.GRAMMAR)
  d_GRAMMAR : KDict P w K a.GRAMMAR (gramS.map fun r => (Sum.inr r.1, V.ref (a.gram r.1)))
  t_gram : ∀ r ∈ gramS, KTup K (a.gram r.1) (r.2.map V.str)
  b_len : mg "len" = none
  b_ord : mg "ord" = none
  b_max : mg "max" = none
  b_tuple : mg "tuple" = none
end RT
end
section
set_option Elab.async false
set_option linter.all false
set_option maxRecDepth 100000
set_option maxHeartbeats 2000000
namespace L2
open PySem PySem.Spec PyProof.Rows
def ClsAt (P : Program) (w : World) (K : PySem.W.Frag) (mg : Str -> Option Value) (base : Heap) (k : Nat) (C : Addr) (x m : Str) (ps : List Str) (sp : Sp) : Prop :=
  ∃ f fd, mg x = some (.ref C) /\ ClsFn K C m f /\ FnOk P w K mg base CX0 k f fd ps sp /\ Binds K fd ps []
theorem pe_clsF {X : Cx} {k : Nat} {C : Addr} {ps : List Str} {sp : Sp} {x m : Str} {p pos apos : Pos} {e : Expr} {es : List Expr} {t : TA} {pl : Sem Bool} (G : ClsAt X.prog X.w X.K X.mg X.base k C x m ps sp) (hr : Room k X.A) (ha : PA X (e :: es) t) (hg : Gl X x := by rfl)
    (hdb : (x == ("__debug__" : Str)) = false := by decide)
    (hst : starEach (e :: es) X.env = (false, eval e X.env) :: starEach es X.env := by rfl) (hpl : (backTo pos (starEach es X.env)).any (·.1) = false := by rfl)
    (ht : eval (.Call (.Attribute (.Name x p) m apos) (e :: es) [] pos) X.env = (do
      let ov <- eval (.Name x p) X.env
      standAt apos.atName
      let (f, first) <- holding [ov] (getMethod ov m pl)
      callWith pos f first (backTo pos (starEach (e :: es) X.env)) (backToKw pos (keywordEach [] X.env))) := by rfl) :
    PE X (.Call (.Attribute (.Name x p) m apos) (e :: es) [] pos) (tCall sp [] E0 t) := by
  obtain ⟨f, fd, h1, h2, h3, h4⟩ := G
  exact pe_clsCall hg h1 h2 h3 hr h4 .nil pass0 ha hdb hst hpl ht
end L2
namespace RT
open PySem PySem.Spec PyProof.Rows L2
def top (i : Nat) : Stmt := PySem.Challenge.pw_recipetexts_s03_tree.main.body.getD i (.Pass ⟨0, 0, 0, 0⟩)
abbrev s_Refusal_init : Stmt := inClass (top 1) 0
abbrev s_TextTooLong_init : Stmt := inClass (top 2) 0
abbrev s_WrongToken_init : Stmt := inClass (top 3) 0
abbrev s_WrongSyntax_init : Stmt := inClass (top 4) 0
abbrev s_LevelTooDeep_init : Stmt := inClass (top 5) 0
abbrev s_NameTwice_init : Stmt := inClass (top 6) 0
abbrev s_TreeTooDeep_init : Stmt := inClass (top 7) 0
abbrev s_Node_init : Stmt := inClass (top 11) 0
abbrev s_refuse_deep : Stmt := top 12
abbrev s_nodes_of : Stmt := top 13
abbrev s_numbers_of_labels : Stmt := top 14
abbrev s_numbers_of : Stmt := top 15
abbrev s_bytes_of : Stmt := top 30
abbrev s_Token_init : Stmt := inClass (top 38) 0
abbrev s_is_letter : Stmt := top 39
abbrev s_is_digit : Stmt := top 40
abbrev s_is_in_name : Stmt := top 41
abbrev s_kind_of_name : Stmt := top 42
abbrev s_Cutter_init : Stmt := inClass (top 43) 0
abbrev s_Cutter_byte_at : Stmt := inClass (top 43) 1
abbrev s_Cutter_add_token : Stmt := inClass (top 43) 2
abbrev s_Cutter_cut_outside : Stmt := inClass (top 43) 3
abbrev s_Cutter_pass_comment : Stmt := inClass (top 43) 4
abbrev s_Cutter_cut_name : Stmt := inClass (top 43) 5
abbrev s_Cutter_cut_number : Stmt := inClass (top 43) 6
abbrev s_Cutter_cut_right_brace : Stmt := inClass (top 43) 7
abbrev s_Cutter_cut_sign : Stmt := inClass (top 43) 8
abbrev s_Cutter_cut_literal : Stmt := inClass (top 43) 9
abbrev s_Cutter_cut_piece : Stmt := inClass (top 43) 10
abbrev s_Cutter_is_piece_over : Stmt := inClass (top 43) 11
abbrev s_Cutter_gather_byte : Stmt := inClass (top 43) 12
abbrev s_cut : Stmt := top 44
abbrev s_Begun_init : Stmt := inClass (top 50) 0
abbrev s_fits : Stmt := top 51
abbrev s_choose : Stmt := top 52
abbrev s_meet_name : Stmt := top 53
abbrev s_Reader_init : Stmt := inClass (top 54) 0
abbrev s_Reader_step : Stmt := inClass (top 54) 1
abbrev s_Reader_read_token : Stmt := inClass (top 54) 2
abbrev s_Reader_act : Stmt := inClass (top 54) 3
abbrev s_Reader_enter_level : Stmt := inClass (top 54) 4
abbrev s_Reader_end_node : Stmt := inClass (top 54) 5
abbrev s_read : Stmt := top 55
abbrev s_tree : Stmt := top 57
abbrev rfF (n p : Int) : List (Str × V) := [("number", .int n), ("place", .int p)]
def spRef (K : PySem.W.Frag) : Sp := fun vs H Q _ => ∃ (e C : Addr) (xs : Array Value) (n p : Int), vs = [.ref e, .int n, .int p] /\ H e = some (XOb e C xs none) /\ XCls K C /\ NoAttr K C "number" /\ NoAttr K C "place" /\
  ∀ dx H', H dx = none -> dx ≠ e -> H' e = some (XOb e C xs (some dx)) -> H' dx = some (XDi dx (rfF n p)) -> (∀ b o, H b = some o -> b ≠ e -> H' b = some o) -> Q .non H'
def spX (C : Addr) (n : Int) (one : Bool) : Sp := fun vs H Q _ => ∃ (e : Addr) (xs : Array Value) (p : Int), (vs = if one then [.ref e, .int p] else [.ref e]) /\ (one = false -> p = 0) /\ H e = some (XOb e C xs none) /\
  ∀ dx H', H dx = none -> dx ≠ e -> H' e = some (XOb e C xs (some dx)) -> H' dx = some (XDi dx (rfF n p)) -> (∀ b o, H b = some o -> b ≠ e -> H' b = some o) -> Q .non H'
section
variable {P : Program} {w : World} {K : PySem.W.Frag} {mg : Str -> Option Value} {base : Heap} {f : Addr} {fd : FuncData} {a : Ad}
theorem sc_Refusal_init : FnScope ["self", "number", "place"] ["self", "number", "place"] (defScope s_Refusal_init) := ⟨rfl, rfl, rfl, by decide +kernel, rfl, by decide +kernel, by decide +kernel⟩
theorem ok_Refusal_init (F : Fun K "__init__" "Refusal.__init__" s_Refusal_init f fd) : FnOk P w K mg base CX0 1 f fd ["self", "number", "place"] (spRef K) := by
  refine F.ok sc_Refusal_init (fun vs H Q E h => ?_) (fun cdv A outer s H vs Q E hr h => ?_)
  · obtain ⟨e, C, xs, n, p, rfl, _⟩ := h; rfl
  · obtain ⟨e, C, xs, n, p, rfl, he, hC, n1, n2, k⟩ := h
    refine ⟨_, pss_cons (ps_xfld0 (pv 0) (pv 1) rfl) (pss_one (ps_xfld1 (pv 0) (pv 2) rfl)), ?_⟩
    refine ⟨_, rfl, _, rfl, e, C, xs, rfl, he, hC, n1, fun dx hd hde => ?_⟩
    refine ⟨_, rfl, _, rfl, e, C, xs, dx, _, rfl, upd_same, (upd_ne hde).trans upd_same, (by show 1 < 1000; decide), hC, n2, ?_⟩
    refine k dx _ hd hde ?_ ?_ fun b o hb hbe => ?_
    · rw [upd_ne (Ne.symm hde), upd_same]
    · rw [upd_same]; rfl
    · rw [upd_ne (ne_of_none hb hd), upd_ne hbe, upd_ne (ne_of_none hb hd)]; exact hb
theorem sc_TextTooLong_init : FnScope ["self"] ["self"] (defScope s_TextTooLong_init) := ⟨rfl, rfl, rfl, by decide +kernel, rfl, by decide +kernel, by decide +kernel⟩
theorem ok_TextTooLong_init (F : Fun K "__init__" "TextTooLong.__init__" s_TextTooLong_init f fd) (T : Tx P w K mg a) (G : ClsAt P w K mg base 1 a.Refusal "Refusal" "__init__" ["self", "number", "place"] (spRef K)) : FnOk P w K mg base CX0 2 f fd ["self"] (spX a.TextTooLong 1 false) := by
  refine F.ok sc_TextTooLong_init (fun vs H Q E h => ?_) (fun cdv A outer s H vs Q E hr h => ?_)
  · obtain ⟨e, xs, p, rfl, _⟩ := h; rfl
  · obtain ⟨e, xs, p, rfl, hp, he, k⟩ := h
    refine ⟨_, pss_one (ps_expr (pe_clsF G hr (pa_cons (pv 0) (pa_cons pe_int (pa_cons pe_int pa_nil))))), ?_⟩
    have hp0 := hp rfl
    subst hp0
    exact ⟨_, rfl, e, a.TextTooLong, xs, 1, 0, rfl, he, T.x_TextTooLong, T.n_TextTooLong_number, T.n_TextTooLong_place, k⟩
theorem sc_WrongToken_init : FnScope ["self", "place"] ["self", "place"] (defScope s_WrongToken_init) := ⟨rfl, rfl, rfl, by decide +kernel, rfl, by decide +kernel, by decide +kernel⟩
theorem ok_WrongToken_init (F : Fun K "__init__" "WrongToken.__init__" s_WrongToken_init f fd) (T : Tx P w K mg a) (G : ClsAt P w K mg base 1 a.Refusal "Refusal" "__init__" ["self", "number", "place"] (spRef K)) : FnOk P w K mg base CX0 2 f fd ["self", "place"] (spX a.WrongToken 2 true) := by
  refine F.ok sc_WrongToken_init (fun vs H Q E h => ?_) (fun cdv A outer s H vs Q E hr h => ?_)
  · obtain ⟨e, xs, p, rfl, _⟩ := h; rfl
  · obtain ⟨e, xs, p, rfl, hp, he, k⟩ := h
    refine ⟨_, pss_one (ps_expr (pe_clsF G hr (pa_cons (pv 0) (pa_cons pe_int (pa_cons (pv 1) pa_nil))))), ?_⟩
    exact ⟨_, rfl, _, rfl, e, a.WrongToken, xs, 2, p, rfl, he, T.x_WrongToken, T.n_WrongToken_number, T.n_WrongToken_place, k⟩
theorem sc_WrongSyntax_init : FnScope ["self", "place"] ["self", "place"] (defScope s_WrongSyntax_init) := ⟨rfl, rfl, rfl, by decide +kernel, rfl, by decide +kernel, by decide +kernel⟩
theorem ok_WrongSyntax_init (F : Fun K "__init__" "WrongSyntax.__init__" s_WrongSyntax_init f fd) (T : Tx P w K mg a) (G : ClsAt P w K mg base 1 a.Refusal "Refusal" "__init__" ["self", "number", "place"] (spRef K)) : FnOk P w K mg base CX0 2 f fd ["self", "place"] (spX a.WrongSyntax 3 true) := by
  refine F.ok sc_WrongSyntax_init (fun vs H Q E h => ?_) (fun cdv A outer s H vs Q E hr h => ?_)
  · obtain ⟨e, xs, p, rfl, _⟩ := h; rfl
  · obtain ⟨e, xs, p, rfl, hp, he, k⟩ := h
    refine ⟨_, pss_one (ps_expr (pe_clsF G hr (pa_cons (pv 0) (pa_cons pe_int (pa_cons (pv 1) pa_nil))))), ?_⟩
    exact ⟨_, rfl, _, rfl, e, a.WrongSyntax, xs, 3, p, rfl, he, T.x_WrongSyntax, T.n_WrongSyntax_number, T.n_WrongSyntax_place, k⟩
theorem sc_LevelTooDeep_init : FnScope ["self", "place"] ["self", "place"] (defScope s_LevelTooDeep_init) := ⟨rfl, rfl, rfl, by decide +kernel, rfl, by decide +kernel, by decide +kernel⟩
theorem ok_LevelTooDeep_init (F : Fun K "__init__" "LevelTooDeep.__init__" s_LevelTooDeep_init f fd) (T : Tx P w K mg a) (G : ClsAt P w K mg base 1 a.Refusal "Refusal" "__init__" ["self", "number", "place"] (spRef K)) : FnOk P w K mg base CX0 2 f fd ["self", "place"] (spX a.LevelTooDeep 4 true) := by
  refine F.ok sc_LevelTooDeep_init (fun vs H Q E h => ?_) (fun cdv A outer s H vs Q E hr h => ?_)
  · obtain ⟨e, xs, p, rfl, _⟩ := h; rfl
  · obtain ⟨e, xs, p, rfl, hp, he, k⟩ := h
    refine ⟨_, pss_one (ps_expr (pe_clsF G hr (pa_cons (pv 0) (pa_cons pe_int (pa_cons (pv 1) pa_nil))))), ?_⟩
    exact ⟨_, rfl, _, rfl, e, a.LevelTooDeep, xs, 4, p, rfl, he, T.x_LevelTooDeep, T.n_LevelTooDeep_number, T.n_LevelTooDeep_place, k⟩
theorem sc_NameTwice_init : FnScope ["self", "place"] ["self", "place"] (defScope s_NameTwice_init) := ⟨rfl, rfl, rfl, by decide +kernel, rfl, by decide +kernel, by decide +kernel⟩
theorem ok_NameTwice_init (F : Fun K "__init__" "NameTwice.__init__" s_NameTwice_init f fd) (T : Tx P w K mg a) (G : ClsAt P w K mg base 1 a.Refusal "Refusal" "__init__" ["self", "number", "place"] (spRef K)) : FnOk P w K mg base CX0 2 f fd ["self", "place"] (spX a.NameTwice 5 true) := by
  refine F.ok sc_NameTwice_init (fun vs H Q E h => ?_) (fun cdv A outer s H vs Q E hr h => ?_)
  · obtain ⟨e, xs, p, rfl, _⟩ := h; rfl
  · obtain ⟨e, xs, p, rfl, hp, he, k⟩ := h
    refine ⟨_, pss_one (ps_expr (pe_clsF G hr (pa_cons (pv 0) (pa_cons pe_int (pa_cons (pv 1) pa_nil))))), ?_⟩
    exact ⟨_, rfl, _, rfl, e, a.NameTwice, xs, 5, p, rfl, he, T.x_NameTwice, T.n_NameTwice_number, T.n_NameTwice_place, k⟩
theorem sc_TreeTooDeep_init : FnScope ["self"] ["self"] (defScope s_TreeTooDeep_init) := ⟨rfl, rfl, rfl, by decide +kernel, rfl, by decide +kernel, by decide +kernel⟩
theorem ok_TreeTooDeep_init (F : Fun K "__init__" "TreeTooDeep.__init__" s_TreeTooDeep_init f fd) (T : Tx P w K mg a) (G : ClsAt P w K mg base 1 a.Refusal "Refusal" "__init__" ["self", "number", "place"] (spRef K)) : FnOk P w K mg base CX0 2 f fd ["self"] (spX a.TreeTooDeep 6 false) := by
  refine F.ok sc_TreeTooDeep_init (fun vs H Q E h => ?_) (fun cdv A outer s H vs Q E hr h => ?_)
  · obtain ⟨e, xs, p, rfl, _⟩ := h; rfl
  · obtain ⟨e, xs, p, rfl, hp, he, k⟩ := h
    refine ⟨_, pss_one (ps_expr (pe_clsF G hr (pa_cons (pv 0) (pa_cons pe_int (pa_cons pe_int pa_nil))))), ?_⟩
    have hp0 := hp rfl
    subst hp0
    exact ⟨_, rfl, e, a.TreeTooDeep, xs, 6, 0, rfl, he, T.x_TreeTooDeep, T.n_TreeTooDeep_number, T.n_TreeTooDeep_place, k⟩
structure XAt (K : PySem.W.Frag) (S : Addr) (C dx : Addr) (H : Hp) (n p : Int) : Prop where
  cls : XCls K C
  sub : subB K C S
  nn : NoAttr K C "number"
  np : NoAttr K C "place"
  di : H dx = some (XDi dx (rfF n p))
def XW (K : PySem.W.Frag) (S : Addr) (H : Hp) (n p : Int) (E : XK) : Prop := ∀ C dx H', Same H H' -> XAt K S C dx H' n p -> E (.ref C) (some dx) H'
theorem raise_1 {S C : Addr} {n p : Int} {E : XK} {H : Hp} (cl : XCls K C) (su : subB K C S) (n1 : NoAttr K C "number") (n2 : NoAttr K C "place") (h : XW K S H n p E) :
    ([V.int p] : List V).length <= 1000 /\ ∀ e ta, H e = none -> spX C n true (.ref e :: [V.int p]) (upd H e (XOb e C (xv ta) none)) (fun v H2 => v = .non /\ ∃ dx, H2 e = some (XOb e C (xv ta) (some dx)) /\ E (.ref C) (some dx) (cutH H2 e)) E0 := by
  refine ⟨by show 1 <= 1000; decide, fun e ta he => ⟨e, xv ta, p, rfl, (fun z => by cases z), upd_same, fun dx H' hd hde h1 h2 hk => ⟨rfl, dx, h1, h C dx _ (fun b o hb => ?_) ⟨cl, su, n1, n2, ?_⟩⟩⟩⟩
  · have := ne_of_none hb he
    rw [cut_ne this]
    exact hk b o (by rw [upd_ne this]; exact hb) this
  · rw [cut_ne hde]; exact h2
theorem raise_0 {S C : Addr} {n : Int} {E : XK} {H : Hp} (cl : XCls K C) (su : subB K C S) (n1 : NoAttr K C "number") (n2 : NoAttr K C "place") (h : XW K S H n 0 E) :
    ([] : List V).length <= 1000 /\ ∀ e ta, H e = none -> spX C n false (.ref e :: []) (upd H e (XOb e C (xv ta) none)) (fun v H2 => v = .non /\ ∃ dx, H2 e = some (XOb e C (xv ta) (some dx)) /\ E (.ref C) (some dx) (cutH H2 e)) E0 := by
  refine ⟨by show 0 <= 1000; decide, fun e ta he => ⟨e, xv ta, 0, rfl, (fun z => rfl), upd_same, fun dx H' hd hde h1 h2 hk => ⟨rfl, dx, h1, h C dx _ (fun b o hb => ?_) ⟨cl, su, n1, n2, ?_⟩⟩⟩⟩
  · have := ne_of_none hb he
    rw [cut_ne this]
    exact hk b o (by rw [upd_ne this]; exact hb) this
  · rw [cut_ne hde]; exact h2
end
end RT
end
section
set_option Elab.async false
set_option linter.all false
set_option maxRecDepth 100000
set_option maxHeartbeats 2000000
namespace RT
open PySem PySem.Spec PyProof.Rows L2
def strOf (b : List Nat) : Str := ⟨b.toArray⟩
theorem beq_flip (i j : Int) : (i == j) = decide (j = i) := by
  by_cases h : i = j
  · subst h; simp
  · rw [beq_eq_false_iff_ne.mpr h, decide_eq_false (fun e => h e.symm)]
def spLetter : Sp := fun vs H Q _ => ∃ c : Int, vs = [.int c] /\ Q (.bl (decide (65 <= c /\ c <= 90 \/ 97 <= c /\ c <= 122))) H
def spDigit : Sp := fun vs H Q _ => ∃ c : Int, vs = [.int c] /\ Q (.bl (decide (48 <= c /\ c <= 57))) H
def inName (c : Int) : Bool := decide (65 <= c /\ c <= 90 \/ 97 <= c /\ c <= 122) || decide (48 <= c /\ c <= 57) || decide (c = 45) || decide (c = 95)
def spInName : Sp := fun vs H Q _ => ∃ c : Int, vs = [.int c] /\ ∀ H', Same H H' -> Q (.bl (inName c)) H'
def spBytes : Sp := fun vs H Q _ => ∃ x : Str, vs = [.str x] /\ x.cps.size <= 1000 /\ ∀ p, H p = none -> Q (.ref p) (upd H p (.lst (nt x.cps.toList)))
def kindName (b : List Nat) : Str := if Vastoa.reserved.contains b then strOf b else "name"
def spKind : Sp := fun vs H Q _ => ∃ (p : Addr) (b : List Nat), vs = [.ref p] /\ H p = some (.lst (nt b)) /\ ∀ H', Same H H' -> Q (.str (kindName b)) H'
section
variable {P : Program} {w : World} {K : PySem.W.Frag} {mg : Str -> Option Value} {base : Heap} {f : Addr} {fd : FuncData} {a : Ad}
theorem sc_is_letter : FnScope ["byte"] ["byte"] (defScope s_is_letter) := ⟨rfl, rfl, rfl, by decide +kernel, rfl, by decide +kernel, by decide +kernel⟩
theorem ok_is_letter (F : Fun K "is_letter" "is_letter" s_is_letter f fd) : FnOk P w K mg base CX0 1 f fd ["byte"] spLetter := by
  refine F.ok sc_is_letter (fun vs H Q E h => ?_) (fun cdv A outer s H vs Q E hr h => ?_)
  · obtain ⟨c, rfl, _⟩ := h; rfl
  · obtain ⟨c, rfl, k⟩ := h
    refine ⟨_, pss_one (ps_ret (pe_or (pe_chain op_le op_le pe_int (pv 0) pe_int) (pe_one (pe_chain op_le op_le pe_int (pv 0) pe_int)))), ?_⟩
    simp [tRet, tOrV, tChain, tC, tVar, rI0, L2.start]
    by_cases h1 : 65 <= c <;> by_cases h2 : c <= 90 <;> by_cases h3 : 97 <= c <;> by_cases h4 : c <= 122 <;> simp [h1, h2, h3, h4] at k ⊢ <;> exact k
theorem sc_is_digit : FnScope ["byte"] ["byte"] (defScope s_is_digit) := ⟨rfl, rfl, rfl, by decide +kernel, rfl, by decide +kernel, by decide +kernel⟩
theorem ok_is_digit (F : Fun K "is_digit" "is_digit" s_is_digit f fd) : FnOk P w K mg base CX0 1 f fd ["byte"] spDigit := by
  refine F.ok sc_is_digit (fun vs H Q E h => ?_) (fun cdv A outer s H vs Q E hr h => ?_)
  · obtain ⟨c, rfl, _⟩ := h; rfl
  · obtain ⟨c, rfl, k⟩ := h
    refine ⟨_, pss_one (ps_ret (pe_chain op_le op_le pe_int (pv 0) pe_int)), ?_⟩
    simp [tRet, tChain, tC, tVar, rI0, L2.start]
    by_cases h1 : 48 <= c <;> by_cases h2 : c <= 57 <;> simp [h1, h2] at k ⊢ <;> exact k
theorem sc_is_in_name : FnScope ["byte"] ["byte"] (defScope s_is_in_name) := ⟨rfl, rfl, rfl, by decide +kernel, rfl, by decide +kernel, by decide +kernel⟩
theorem ok_is_in_name (F : Fun K "is_in_name" "is_in_name" s_is_in_name f fd) (T : Tx P w K mg a) (G1 : FnAt P w K mg base CX0 1 "is_letter" ["byte"] spLetter) (G2 : FnAt P w K mg base CX0 1 "is_digit" ["byte"] spDigit) :
    FnOk P w K mg base CX0 2 f fd ["byte"] spInName := by
  refine F.ok sc_is_in_name (fun vs H Q E h => ?_) (fun cdv A outer s H vs Q E hr h => ?_)
  · obtain ⟨c, rfl, _⟩ := h; rfl
  · obtain ⟨c, rfl, k⟩ := h
    refine ⟨_, pss_one (ps_ret (pe_or (pe_callF G1 hr pass0 (pa_cons (pv 0) pa_nil)) (pe_or (pe_callF G2 hr pass0 (pa_cons (pv 0) pa_nil))
      (pe_one (pe_inT (pv 0) (pa_cons (pe_gl T.g_MINUS) (pa_cons (pe_gl T.g_UNDERSCORE) pa_nil))))))), ?_⟩
    simp [tRet, tOrV, tCall, tCons, tNil, tC, tVar, tInT, rInT, flatV, inV, eqV, spLetter, spDigit, L2.start]
    by_cases h1 : 65 <= c /\ c <= 90 \/ 97 <= c /\ c <= 122
    · rw [if_pos h1]
      have e : inName c = true := by simp [inName, h1]
      rw [e] at k; exact k H (Same.refl H)
    · rw [if_neg h1]
      by_cases h2 : 48 <= c /\ c <= 57
      · rw [if_pos h2]
        have e : inName c = true := by simp [inName, h2]
        rw [e] at k; exact k H (Same.refl H)
      · rw [if_neg h2]
        intro H' hs
        have e : inName c = (45 == c || 95 == c) := by
          rw [beq_flip, beq_flip]
          simp only [inName, h1, h2, decide_false, Bool.false_or]
        rw [<- e]; exact k H' hs
theorem sc_bytes_of : FnScope ["written", "sign"] ["written"] (defScope s_bytes_of) := ⟨rfl, rfl, rfl, by decide +kernel, rfl, by decide +kernel, by decide +kernel⟩
theorem ok_bytes_of (F : Fun K "bytes_of" "bytes_of" s_bytes_of f fd) (T : Tx P w K mg a) : FnOk P w K mg base CX0 1 f fd ["written"] spBytes := by
  refine F.ok sc_bytes_of (fun vs H Q E h => ?_) (fun cdv A outer s H vs Q E hr h => ?_)
  · obtain ⟨c, rfl, _⟩ := h; rfl
  · obtain ⟨x, rfl, hx, k⟩ := h
    refine ⟨_, pss_one (ps_ret (pe_lc (own := [("sign", 1)]) rfl sc_bytes_of.nd (pi_str (pv 0)) (blkOk_by rfl) (fun _ _ _ _ _ => pg_name (i := 1) sc_bytes_of.nd rfl (Or.inl rfl)) (fun _ _ _ _ _ => pts_nil)
      (fun _ _ _ _ _ => pe_callB call_ord (by rfl) T.b_ord boot_ord (pa_cons (pv 1) pa_nil)))), ?_⟩
    refine ⟨_, rfl, x, rfl, fun D hD => lc_str (fun i H' => H' = upd H D (.lst (nt (x.cps.toList.take i)))) rfl ?_ ?_⟩
    · rintro i c _ hc rfl
      simp [gName, tYes, tCB, tCons, tNil, tVar, wipe, L2.start, upd_same]
      have hi : i < x.cps.size := (Array.getElem?_eq_some_iff.mp hc).1
      refine ⟨rfl, by rw [nt_len, List.length_take]; exact Nat.lt_of_le_of_lt (Nat.min_le_left _ _) (small1000 (by omega)), ?_⟩
      rw [upd_upd]
      congr 2
      have hc' : x.cps.toList[i]? = some c := by simpa using hc
      rw [List.take_succ, hc']
      simp [nt]
    · rintro _ rfl
      have := k D hD
      rw [List.take_of_length_le (by simp)]
      exact this
theorem words_reserved : wordsS.map (fun x => x.cps.toList) = Vastoa.reserved := by decide +kernel
theorem sc_kind_of_name : FnScope ["held", "word"] ["held"] (defScope s_kind_of_name) := ⟨rfl, rfl, rfl, by decide +kernel, rfl, by decide +kernel, by decide +kernel⟩
theorem ok_kind_of_name (F : Fun K "kind_of_name" "kind_of_name" s_kind_of_name f fd) (T : Tx P w K mg a) (G : FnAt P w K mg base CX0 1 "bytes_of" ["written"] spBytes) : FnOk P w K mg base CX0 2 f fd ["held"] spKind := by
  refine F.ok sc_kind_of_name (fun vs H Q E h => ?_) (fun cdv A outer s H vs Q E hr h => ?_)
  · obtain ⟨p, b, rfl, _⟩ := h; rfl
  · obtain ⟨p, b, rfl, hp, k⟩ := h
    refine ⟨_, pss_cons (ps_for PassesOwn.never rfl (pi_tup (pe_gl T.g_WORDS)) (pg_name (i := 1) sc_kind_of_name.nd rfl (Or.inl rfl))
      (pss_one (ps_if (pt_cmpR (op_eqD hr.units) (pv 0) (pe_callF G hr pass0 (pa_cons (pv 1) pa_nil)) (nomark _)) (pss_one (ps_ret (pv 1))) pss_nil))) (pss_one (ps_ret pe_str)), ?_⟩
    refine ⟨a.WORDS, rfl, ⟨_, T.t_WORDS.sq _⟩, for_tup (K := K) (a := a.WORDS) (xs := wordsS.map V.str) (fun i σ H' => ∃ v : Option V, σ = [some (.ref p), v] /\ Same H H' /\ ∀ j x, j < i -> wordsS[j]? = some x -> x.cps.toList ≠ b)
      ⟨none, rfl, Same.refl _, fun j x hj => absurd hj (Nat.not_lt_zero _)⟩ (fun i σ H' _ _ => T.t_WORDS.sq _) ?_ ?_⟩
    · rintro i y σ H' hi ⟨v, rfl, hs, hno⟩
      obtain ⟨x, hx, rfl⟩ : ∃ x, wordsS[i]? = some x /\ V.str x = y := by
        rw [List.getElem?_map] at hi
        exact Option.map_eq_some_iff.mp hi
      have hsz : x.cps.size <= 1000 := by
        have all : ∀ x ∈ wordsS, x.cps.size <= 1000 := by decide +kernel
        exact all x (List.mem_of_getElem? hx)
      refine ⟨_, rfl, _, rfl, x, rfl, hsz, fun q hq => eqD_nt (SqL.of (same_new hq _ _ (hs _ _ hp))) (SqL.of upd_same) ⟨_, rfl, ite2 (fun e => ?_) fun e => ?_⟩⟩
      · have e : b = x.cps.toList := of_decide_eq_true e
        subst e
        refine ⟨_, rfl, ?_⟩
        have h1 : kindName x.cps.toList = x := by
          have : x.cps.toList ∈ Vastoa.reserved := by rw [<- words_reserved]; exact List.mem_map.mpr ⟨x, List.mem_of_getElem? hx, rfl⟩
          unfold kindName
          rw [if_pos (List.contains_iff_mem.mpr this)]
          rfl
        rw [h1] at k
        exact k _ (hs.trans (same_new hq))
      · refine ⟨_, rfl, hs.trans (same_new hq), fun j y hj hy => ?_⟩
        by_cases hji : j = i
        · subst hji
          rw [hx] at hy
          cases hy
          exact fun z => e (decide_eq_true z.symm)
        · exact hno j y (by omega) hy
    · rintro σ H' ⟨v, rfl, hs, hno⟩
      have h1 : kindName b = "name" := by
        have : b ∉ Vastoa.reserved := by
          rw [<- words_reserved]
          intro hm
          obtain ⟨x, hx, rfl⟩ := List.mem_map.mp hm
          obtain ⟨j, hj⟩ := List.getElem?_of_mem hx
          exact hno j x (by have := (List.getElem?_eq_some_iff.mp hj).1; rw [List.length_map]; exact this) hj rfl
        unfold kindName
        rw [if_neg (fun z => this (List.contains_iff_mem.mp z))]
      rw [h1] at k
      exact k _ hs
def spTok (a : Ad) : Sp := fun vs H Q _ => ∃ (t dx : Addr) (k p h : V), vs = [.ref t, k, p, h] /\ H t = some (.ins a.Token dx []) /\ Q .non (upd H t (.ins a.Token dx (tokF k p h)))
theorem sc_Token_init : FnScope ["self", "kind", "place", "held"] ["self", "kind", "place", "held"] (defScope s_Token_init) := ⟨rfl, rfl, rfl, by decide +kernel, rfl, by decide +kernel, by decide +kernel⟩
theorem ok_Token_init (F : Fun K "__init__" "Token.__init__" s_Token_init f fd) (T : Tx P w K mg a) : FnOk P w K mg base CX0 1 f fd ["self", "kind", "place", "held"] (spTok a) := by
  refine F.ok sc_Token_init (fun vs H Q E h => ?_) (fun cdv A outer s H vs Q E hr h => ?_)
  · obtain ⟨t, dx, k, p, h, rfl, _⟩ := h; rfl
  · obtain ⟨t, dx, kk, p, h, rfl, ht, k⟩ := h
    refine ⟨_, pss_cons (ps_fld (pv 0) (pv 1) rfl) (pss_cons (ps_fld (pv 0) (pv 2) rfl) (pss_one (ps_fld (pv 0) (pv 3) rfl))), ?_⟩
    refine ⟨_, rfl, _, rfl, t, _, dx, _, rfl, ht, T.c_Token, T.n_Token_kind, (by show 0 < 1000; decide), ?_⟩
    refine ⟨_, rfl, _, rfl, t, _, dx, _, rfl, upd_same, T.c_Token, T.n_Token_place, (by show 1 < 1000; decide), ?_⟩
    refine ⟨_, rfl, _, rfl, t, _, dx, _, rfl, upd_same, T.c_Token, T.n_Token_held, (by show 2 < 1000; decide), ?_⟩
    rw [upd_upd, upd_upd]
    exact k
end
end RT
end
section
set_option Elab.async false
set_option linter.all false
set_option maxRecDepth 100000
set_option maxHeartbeats 2000000
namespace RT
open PySem PySem.Spec PyProof.Rows L2
open Vastoa (Mark Marks)
abbrev STok := Vastoa.Tok
def kstr : STok -> Str
  | .name _ => "name"
  | .num _ => "number"
  | .quote => "quote"
  | .unquote => "unquote"
  | .piece _ => "piece"
  | .hole => "hole"
  | .unhole => "unhole"
  | .fin => "end"
  | .word x => strOf x
  | .sign x => strOf x
def Keep (M : Addr -> Prop) (H H' : Hp) : Prop := ∀ b o, H b = some o -> ¬ M b -> H' b = some o
theorem Keep.refl (M : Addr -> Prop) (H : Hp) : Keep M H H := fun _ _ h _ => h
theorem Keep.trans {M : Addr -> Prop} {H H1 H2 : Hp} (h : Keep M H H1) (h' : Keep M H1 H2) : Keep M H H2 := fun b o e n => h' b o (h b o e n) n
theorem Keep.of {M : Addr -> Prop} {H H' : Hp} (h : Same H H') : Keep M H H' := fun b o e _ => h b o e
theorem Keep.at_ {M : Addr -> Prop} {H : Hp} {p : Addr} {o : HO} (h : M p) : Keep M H (upd H p o) := fun b u e n => by rw [upd_ne (fun z => n (by rw [z]; exact h))]; exact e
theorem Keep.new {M : Addr -> Prop} {H : Hp} {p : Addr} {o : HO} (h : H p = none) : Keep M H (upd H p o) := Keep.of (same_new h)
theorem Keep.wide {M M' : Addr -> Prop} {H H' : Hp} (k : Keep M H H') (h : ∀ b, M b -> M' b) : Keep M' H H' := fun b o e n => k b o e fun z => n (h b z)
def SqM (K : PySem.W.Frag) (M : Addr -> Prop) (H : Hp) (p : Addr) (xs : List V) : Prop := (Rd H p (.lst xs) /\ ¬ M p) \/ ∃ (o : Obj) (its : Array Value) (n : Nat), K.lookup p = some o /\ o.cls = .type "list" /\ o.dict = none /\ o.data = .seq its n /\ its.size <= sizeLine /\ Vals xs its.toList
theorem SqM.sq {K : PySem.W.Frag} {M : Addr -> Prop} {H : Hp} {p : Addr} {xs : List V} (h : SqM K M H p xs) : SqL K H p xs := h.imp (·.1) id
theorem SqM.keep {K : PySem.W.Frag} {M : Addr -> Prop} {H H' : Hp} {p : Addr} {xs : List V} (h : SqM K M H p xs) (k : Keep M H H') : SqM K M H' p xs := by
  rcases h with ⟨q | ⟨o, q⟩, n⟩ | q
  · exact .inl ⟨.inl (k _ _ q n), n⟩
  · exact .inl ⟨.inr ⟨o, k _ _ q n⟩, n⟩
  · exact .inr q
theorem paired_snoc {A B : Type} {R : A -> B -> Prop} : ∀ {as : List A} {bs : List B} {x : A} {y : B}, Paired R as bs -> R x y -> Paired R (as ++ [x]) (bs ++ [y])
  | _, _, _, _, .nil, r => .cons r .nil
  | _, _, _, _, .cons q t, r => .cons q (paired_snoc t r)
theorem paired_imp {A B : Type} {R S : A -> B -> Prop} (i : ∀ x y, R x y -> S x y) : ∀ {as : List A} {bs : List B}, Paired R as bs -> Paired S as bs
  | _, _, .nil => .nil
  | _, _, .cons q t => .cons (i _ _ q) (paired_imp i t)
theorem paired_get {A B : Type} {R : A -> B -> Prop} : ∀ {as : List A} {bs : List B} {j : Nat} {y : B}, Paired R as bs -> bs[j]? = some y -> ∃ x, as[j]? = some x /\ R x y
  | _, _, j, _, .nil, e => by simp at e
  | _, _, 0, _, .cons q t, e => by simp at e; subst e; exact ⟨_, rfl, q⟩
  | _, _, j + 1, y, .cons q t, e => by
    obtain ⟨x, h1, h2⟩ := paired_get (j := j) (y := y) t (by simpa using e)
    exact ⟨x, by simpa using h1, h2⟩
def TokAt (a : Ad) (M : Addr -> Prop) (H : Hp) (t : Addr) (m : Mark) : Prop := ∃ dx ha, H t = some (.ins a.Token dx (tokF (.str (kstr m.tok)) (.int m.place) (.ref ha))) /\ H ha = some (.lst (nt (RM.held m.tok))) /\ ¬ M t /\ ¬ M ha
theorem TokAt.keep {a : Ad} {M : Addr -> Prop} {H H' : Hp} {t : Addr} {m : Mark} (h : TokAt a M H t m) (k : Keep M H H') : TokAt a M H' t m := by
  obtain ⟨dx, ha, h1, h2, h3, h4⟩ := h
  exact ⟨dx, ha, k _ _ h1 h3, k _ _ h2 h4, h3, h4⟩
structure CA where
  c : Addr
  dx : Addr
  a : Addr
  tl : Addr
  ol : Addr
def CA.M (z : CA) (b : Addr) : Prop := b = z.c \/ b = z.tl \/ b = z.ol
theorem CA.mc (z : CA) : z.M z.c := .inl rfl
theorem CA.mt (z : CA) : z.M z.tl := .inr (.inl rfl)
theorem CA.mo (z : CA) : z.M z.ol := .inr (.inr rfl)
def opS (b : Bool) : V := .str (if b then "hole" else "brace")
structure CutAt (a : Ad) (K : PySem.W.Frag) (H : Hp) (z : CA) (txt : List Nat) (i : Nat) (T : Marks) (O : List Bool) (lit en : Bool) : Prop where
  ins : H z.c = some (.ins a.Cutter z.dx (cutF (.ref z.a) (.int i) (.ref z.tl) (.ref z.ol) (.bl lit) (.bl en)))
  txt : SqM K z.M H z.a (nt txt)
  tl : ∃ as, H z.tl = some (.lst (as.map V.ref)) /\ Paired (TokAt a z.M H) as T
  ol : H z.ol = some (.lst (O.reverse.map opS))
  nto : z.tl ≠ z.ol
section
variable {a : Ad} {K : PySem.W.Frag} {H H' : Hp} {z : CA} {txt : List Nat} {i : Nat} {T : Marks} {O : List Bool} {lit en : Bool}
theorem CutAt.nct (h : CutAt a K H z txt i T O lit en) : z.c ≠ z.tl := by
  obtain ⟨as, h1, _⟩ := h.tl
  exact ne_of h.ins h1 (by intro q; cases q)
theorem CutAt.nco (h : CutAt a K H z txt i T O lit en) : z.c ≠ z.ol := ne_of h.ins h.ol (by intro q; cases q)
theorem CutAt.fresh (h : CutAt a K H z txt i T O lit en) {p : Addr} (hp : H p = none) : ¬ z.M p := by
  obtain ⟨as, h1, _⟩ := h.tl
  rintro (rfl | rfl | rfl)
  · rw [h.ins] at hp; cases hp
  · rw [h1] at hp; cases hp
  · rw [h.ol] at hp; cases hp
theorem CutAt.same (h : CutAt a K H z txt i T O lit en) (s : Same H H') : CutAt a K H' z txt i T O lit en := by
  obtain ⟨as, h1, h2⟩ := h.tl
  exact ⟨s _ _ h.ins, h.txt.keep (Keep.of s), ⟨as, s _ _ h1, paired_imp (fun x y q => q.keep (Keep.of s)) h2⟩, s _ _ h.ol, h.nto⟩
theorem CutAt.put (h : CutAt a K H z txt i T O lit en) (i' : Nat) (lit' en' : Bool) : CutAt a K (upd H z.c (.ins a.Cutter z.dx (cutF (.ref z.a) (.int i') (.ref z.tl) (.ref z.ol) (.bl lit') (.bl en')))) z txt i' T O lit' en' := by
  obtain ⟨as, h1, h2⟩ := h.tl
  have k : Keep z.M H (upd H z.c (.ins a.Cutter z.dx (cutF (.ref z.a) (.int i') (.ref z.tl) (.ref z.ol) (.bl lit') (.bl en')))) := Keep.at_ z.mc
  exact ⟨upd_same, h.txt.keep k, ⟨as, by rw [upd_ne (Ne.symm h.nct)]; exact h1, paired_imp (fun x y q => q.keep k) h2⟩, by rw [upd_ne (Ne.symm h.nco)]; exact h.ol, h.nto⟩
theorem CutAt.putO (h : CutAt a K H z txt i T O lit en) (O' : List Bool) : CutAt a K (upd H z.ol (.lst (O'.reverse.map opS))) z txt i T O' lit en := by
  obtain ⟨as, h1, h2⟩ := h.tl
  have k : Keep z.M H (upd H z.ol (.lst (O'.reverse.map opS))) := Keep.at_ z.mo
  exact ⟨by rw [upd_ne h.nco]; exact h.ins, h.txt.keep k, ⟨as, by rw [upd_ne h.nto]; exact h1, paired_imp (fun x y q => q.keep k) h2⟩, upd_same, h.nto⟩
theorem CutAt.putT (h : CutAt a K H z txt i T O lit en) {as : List Addr} {t : Addr} {m : Mark} (h1 : H z.tl = some (.lst (as.map V.ref))) (ht : TokAt a z.M H t m) : CutAt a K (upd H z.tl (.lst (as.map V.ref ++ [.ref t]))) z txt i (T ++ [m]) O lit en := by
  obtain ⟨as', h1', h2⟩ := h.tl
  rw [h1] at h1'
  have e : as = as' := by
    have := Option.some.inj h1'
    injection this with this
    exact List.map_inj_right (fun x y q => by injection q) |>.mp this
  subst e
  have k : Keep z.M H (upd H z.tl (.lst (as.map V.ref ++ [.ref t]))) := Keep.at_ z.mt
  exact ⟨by rw [upd_ne h.nct]; exact h.ins, h.txt.keep k, ⟨as ++ [t], by rw [upd_same, List.map_append]; rfl, paired_imp (fun x y q => q.keep k) (paired_snoc h2 ht)⟩, by rw [upd_ne (Ne.symm h.nto)]; exact h.ol, h.nto⟩
end
def TextAt (a : Ad) (K : PySem.W.Frag) (H : Hp) (c : Addr) (txt : List Nat) : Prop := ∃ dx ta p t o l e, H c = some (.ins a.Cutter dx (cutF (.ref ta) p t o l e)) /\ SqL K H ta (nt txt)
theorem CutAt.text {a : Ad} {K : PySem.W.Frag} {H : Hp} {z : CA} {txt : List Nat} {i : Nat} {T : Marks} {O : List Bool} {lit en : Bool} (h : CutAt a K H z txt i T O lit en) : TextAt a K H z.c txt := ⟨_, _, _, _, _, _, _, h.ins, h.txt.sq⟩
def byteAt (txt : List Nat) (j : Nat) : Int := match txt[j]? with
  | some b => (b : Int)
  | none => -1
def spByteAt (a : Ad) (K : PySem.W.Frag) : Sp := fun vs H Q _ => ∃ (c : Addr) (txt : List Nat) (j : Nat), vs = [.ref c, .int j] /\ TextAt a K H c txt /\ Q (.int (byteAt txt j)) H
def spAddTok (a : Ad) (K : PySem.W.Frag) : Sp := fun vs H Q _ => ∃ (z : CA) (txt : List Nat) (i : Nat) (T : Marks) (O : List Bool) (lit en : Bool) (t : STok) (n : Nat) (ha : Addr), vs = [.ref z.c, .str (kstr t), .int n, .ref ha] /\
  CutAt a K H z txt i T O lit en /\ H ha = some (.lst (nt (RM.held t))) /\ ¬ z.M ha /\ T.length < 1000000 /\ ∀ H', Keep z.M H H' -> CutAt a K H' z txt (i + n) (T ++ [⟨i, t⟩]) O lit en -> Q .non H'
section
variable {P : Program} {w : World} {K : PySem.W.Frag} {mg : Str -> Option Value} {base : Heap} {f : Addr} {fd : FuncData} {a : Ad}
theorem sc_byte_at : FnScope ["self", "place"] ["self", "place"] (defScope s_Cutter_byte_at) := ⟨rfl, rfl, rfl, by decide +kernel, rfl, by decide +kernel, by decide +kernel⟩
theorem ok_byte_at (F : Fun K "byte_at" "Cutter.byte_at" s_Cutter_byte_at f fd) (T : Tx P w K mg a) : FnOk P w K mg base CX0 1 f fd ["self", "place"] (spByteAt a K) := by
  refine F.ok sc_byte_at (fun vs H Q E h => ?_) (fun cdv A outer s H vs Q E hr h => ?_)
  · obtain ⟨c, txt, j, rfl, _⟩ := h; rfl
  · obtain ⟨c, txt, j, rfl, ⟨dx, ta, p, t, o, l, e, hc, ht⟩, k⟩ := h
    refine ⟨_, pss_one (ps_ret (pe_ifExp (pt_cmpR op_lt (pv 1) (pe_callB call_len_seq (by rfl) T.b_len PySem.boot_len (pa_cons (pe_fld (pv 0) rfl) pa_nil)) (nomark _))
      (pe_ix ix_list (pe_fld (pv 0) rfl) (pv 1) (fun _ _ => rfl)) (pe_gl T.g_NOTHING))), ?_⟩
    refine ⟨_, rfl, _, rfl, c, _, dx, _, _, rfl, hc, T.c_Cutter, T.n_Cutter_text, cutF_text _ _ _ _ _ _, ta, _, rfl, .inl ht, _, _, rfl, rfl, _, rfl, ite2 (fun q => ?_) fun q => ?_⟩
    · have hj : j < txt.length := by
        have := of_decide_eq_true q
        rw [nt_len] at this
        omega
      refine ⟨_, rfl, c, _, dx, _, _, rfl, hc, T.c_Cutter, T.n_Cutter_text, cutF_text _ _ _ _ _ _, _, rfl, ta, _, _, _, rfl, rfl, ht, atI_nat (v := V.int (txt[j] : Int)) (by simp [nt, hj]), ?_⟩
      have : byteAt txt j = (txt[j] : Int) := by unfold byteAt; rw [List.getElem?_eq_getElem hj]
      rw [this] at k; exact k
    · have hj : ¬ j < txt.length := fun z => q (decide_eq_true (by rw [nt_len]; omega))
      have : byteAt txt j = -1 := by unfold byteAt; rw [List.getElem?_eq_none (by omega)]
      rw [this] at k; exact k
theorem sc_add_token : FnScope ["self", "kind", "length", "held"] ["self", "kind", "length", "held"] (defScope s_Cutter_add_token) := ⟨rfl, rfl, rfl, by decide +kernel, rfl, by decide +kernel, by decide +kernel⟩
theorem ok_add_token (F : Fun K "add_token" "Cutter.add_token" s_Cutter_add_token f fd) (T : Tx P w K mg a) (G : MkAt P w K mg base CX0 1 a.Token "Token" ["self", "kind", "place", "held"] (spTok a)) : FnOk P w K mg base CX0 3 f fd ["self", "kind", "length", "held"] (spAddTok a K) := by
  refine F.ok sc_add_token (fun vs H Q E h => ?_) (fun cdv A outer s H vs Q E hr h => ?_)
  · obtain ⟨z, txt, i, Tk, O, lit, en, t, n, ha, rfl, _⟩ := h; rfl
  · obtain ⟨z, txt, i, Tk, O, lit, en, t, n, ha, rfl, hC, hha, nha, hlen, k⟩ := h
    refine ⟨_, pss_cons (ps_expr (pe_bm PySem.F.plainAttrs_list PySem.F.slot_list_append PySem.F.type_list_append mt_append (pe_fld (pv 0) rfl)
      (pa_cons (pe_makeF G hr pass0 (pa_cons (pv 1) (pa_cons (pe_fld (pv 0) rfl) (pa_cons (pv 3) pa_nil)))) pa_nil))) (pss_one (ps_fldaug (pv 0) (pv 2) in_add)), ?_⟩
    obtain ⟨as, h1, h2⟩ := hC.tl
    refine ⟨_, rfl, z.c, _, z.dx, _, _, rfl, hC.ins, T.c_Cutter, T.n_Cutter_tokens, cutF_tokens _ _ _ _ _ _, .inl ⟨rfl, _, SqL.of h1⟩, ?_⟩
    refine ⟨_, rfl, _, rfl, z.c, _, z.dx, _, _, rfl, hC.ins, T.c_Cutter, T.n_Cutter_place, cutF_place _ _ _ _ _ _, _, rfl, ?_⟩
    intro x dx hx hdx hne
    refine ⟨x, dx, _, _, _, rfl, upd_same, rfl, ?_⟩
    rw [upd_upd]
    have nx := hC.fresh hx
    have s1 : Same H (upd (upd H dx (.own x)) x (.ins a.Token dx (tokF (.str (kstr t)) (.int i) (.ref ha)))) := fun b o e => by rw [upd_ne (ne_of_none e hx), upd_ne (ne_of_none e hdx)]; exact e
    have C1 := hC.same s1
    have tk : TokAt a z.M (upd (upd H dx (.own x)) x (.ins a.Token dx (tokF (.str (kstr t)) (.int i) (.ref ha)))) x ⟨i, t⟩ := ⟨dx, ha, upd_same, s1 _ _ hha, nx, nha⟩
    have h1' := s1 _ _ h1
    refine ⟨z.tl, _, _, rfl, rfl, h1', ?_, ?_⟩
    · rw [List.length_map, Paired.length h2]; exact Nat.lt_trans hlen (by decide)
    have C2 := C1.putT h1' tk
    refine ⟨_, rfl, z.c, _, z.dx, _, _, rfl, C2.ins, T.c_Cutter, T.n_Cutter_place, cutF_place _ _ _ _ _ _, _, rfl, _, _, rfl, rfl, z.dx, _, C2.ins, (by show 6 < 1000; decide), ?_⟩
    have C3 := C2.put (i + n) lit en
    refine k _ ?_ C3
    exact ((Keep.of s1).trans (Keep.at_ z.mt)).trans (Keep.at_ z.mc)
end
end RT
end
section
set_option Elab.async false
set_option linter.all false
set_option maxRecDepth 100000
set_option maxHeartbeats 2000000
namespace RT
open PySem PySem.Spec PyProof.Rows L2
open Vastoa (Mark Marks)
def XWM (M : Addr -> Prop) (K : PySem.W.Frag) (S : Addr) (H : Hp) (n p : Int) (E : XK) : Prop := ∀ C dx H', Keep M H H' -> XAt K S C dx H' n p -> E (.ref C) (some dx) H'
theorem XWM.on {M : Addr -> Prop} {K : PySem.W.Frag} {S : Addr} {H H1 : Hp} {n p : Int} {E : XK} (h : XWM M K S H n p E) (k : Keep M H H1) : XW K S H1 n p E := fun C dx H' s x => h C dx H' (k.trans (Keep.of s)) x
theorem XWM.from {M : Addr -> Prop} {K : PySem.W.Frag} {S : Addr} {H H1 : Hp} {n p : Int} {E : XK} (h : XWM M K S H n p E) (k : Keep M H H1) : XWM M K S H1 n p E := fun C dx H' s x => h C dx H' (k.trans s) x
def Run (txt : List Nat) (p : Nat -> Bool) (i j : Nat) : Prop := i <= j /\ j <= txt.length /\ ∀ x, i <= x -> x < j -> ∃ c, txt[x]? = some c /\ p c = true
theorem Run.more {txt : List Nat} {p : Nat -> Bool} {i j c : Nat} (r : Run txt p i j) (e : txt[j]? = some c) (h : p c = true) : Run txt p i (j + 1) :=
  ⟨Nat.le_succ_of_le r.1, (List.getElem?_eq_some_iff.mp e).1, fun x h1 h2 => by
    by_cases hx : x = j
    · subst hx; exact ⟨c, e, h⟩
    · exact r.2.2 x h1 (by omega)⟩
theorem byteAt_some {txt : List Nat} {j c : Nat} (e : txt[j]? = some c) : byteAt txt j = (c : Int) := by unfold byteAt; rw [e]
theorem byteAt_none {txt : List Nat} {j : Nat} (e : txt[j]? = none) : byteAt txt j = -1 := by unfold byteAt; rw [e]
def spPassComment (a : Ad) (K : PySem.W.Frag) : Sp := fun vs H Q _ => ∃ (z : CA) (txt : List Nat) (i : Nat) (T : Marks) (O : List Bool) (lit en : Bool), vs = [.ref z.c] /\ CutAt a K H z txt i T O lit en /\ i <= txt.length /\
  ∀ H' j, Keep z.M H H' -> CutAt a K H' z txt j T O lit en -> Run txt (fun y => y != 10) i j -> (∀ c, txt[j]? = some c -> c = 10) -> Q .non H'
section
variable {P : Program} {w : World} {K : PySem.W.Frag} {mg : Str -> Option Value} {base : Heap} {f : Addr} {fd : FuncData} {a : Ad}
theorem sc_pass_comment : FnScope ["self"] ["self"] (defScope s_Cutter_pass_comment) := ⟨rfl, rfl, rfl, by decide +kernel, rfl, by decide +kernel, by decide +kernel⟩
theorem ok_pass_comment (F : Fun K "pass_comment" "Cutter.pass_comment" s_Cutter_pass_comment f fd) (T : Tx P w K mg a) (G : MtAt P w K mg base CX0 1 a.Cutter "byte_at" ["self", "place"] (spByteAt a K)) : FnOk P w K mg base CX0 2 f fd ["self"] (spPassComment a K) := by
  refine F.ok sc_pass_comment (fun vs H Q E h => ?_) (fun cdv A outer s H vs Q E hr h => ?_)
  · obtain ⟨z, txt, i, Tk, O, lit, en, rfl, _⟩ := h; rfl
  · obtain ⟨z, txt, i, Tk, O, lit, en, rfl, hC, hi, k⟩ := h
    refine ⟨_, pss_one (ps_while PassesOwn.never (pt_notInT (pe_methF G T.c_Cutter hr pass0 (pv 0) (pa_cons (pe_fld (pv 0) rfl) pa_nil)) (pa_cons (pe_gl T.g_LINE_FEED) (pa_cons (pe_gl T.g_NOTHING) pa_nil)))
      (pss_one (ps_fldaug (pv 0) pe_int in_add))), ?_⟩
    refine ⟨fun m σ H' => σ = [some (.ref z.c)] /\ ∃ j, CutAt a K H' z txt j Tk O lit en /\ Keep z.M H H' /\ Run txt (fun y => y != 10) i j /\ m = txt.length - j, ⟨_, rfl, i, hC, Keep.refl _ _, ⟨Nat.le_refl _, hi, fun x h1 h2 => by omega⟩, rfl⟩, ?_⟩
    rintro m σ H1 ⟨rfl, j, C1, k1, r1, rfl⟩
    refine ⟨_, rfl, z.c, z.dx, _, rfl, C1.ins, cutF_no_byte_at _ _ _ _ _ _, _, rfl, z.c, _, z.dx, _, _, rfl, C1.ins, T.c_Cutter, T.n_Cutter_place, cutF_place _ _ _ _ _ _, z.c, txt, j, rfl, C1.text, rfl, fun H2 s2 => ⟨_, rfl, ?_⟩⟩
    have C2 := C1.same s2
    cases e : txt[j]? with
    | none =>
      rw [byteAt_none e]
      refine iteF ?_
      exact k H2 j (k1.trans (Keep.of s2)) C2 r1 fun c hc => by rw [e] at hc; cases hc
    | some c =>
      rw [byteAt_some e]
      have hin : inV (.int (c : Int)) [V.int 10, V.int (-1)] = decide (c = 10) := by
        simp only [inV, List.any_cons, List.any_nil, eqV, beq_flip, Bool.or_false]
        have : ¬ ((c : Int) = -1) := by omega
        simp only [this, decide_false, Bool.or_false]
        by_cases h : c = 10
        · subst h; rfl
        · rw [decide_eq_false h, decide_eq_false (by omega)]
      rw [hin]
      by_cases h : c = 10
      · rw [decide_eq_true h]
        refine iteF ?_
        exact k H2 j (k1.trans (Keep.of s2)) C2 r1 fun c' hc => by rw [e] at hc; cases hc; exact h
      · rw [decide_eq_false h]
        refine iteT ⟨_, fun σ' H' q => q, ?_⟩
        refine ⟨_, rfl, z.c, _, z.dx, _, _, rfl, C2.ins, T.c_Cutter, T.n_Cutter_place, cutF_place _ _ _ _ _ _, _, _, rfl, rfl, z.dx, _, C2.ins, (by show 6 < 1000; decide), ?_⟩
        have C3 := C2.put (j + 1) lit en
        have hj : j < txt.length := (List.getElem?_eq_some_iff.mp e).1
        refine ⟨txt.length - (j + 1), by omega, rfl, j + 1, C3, (k1.trans (Keep.of s2)).trans (Keep.at_ z.mc), r1.more e (by simpa using h), rfl⟩
end
end RT
end
section
set_option Elab.async false
set_option linter.all false
set_option maxRecDepth 100000
set_option maxHeartbeats 2000000
namespace RT
open PySem PySem.Spec PyProof.Rows L2
open Vastoa (Mark Marks)
def piece (txt : List Nat) (i j : Nat) : List Nat := (txt.drop i).take (j - i)
theorem cutV_nt (txt : List Nat) {i j : Nat} (h : i <= j) (hj : j <= txt.length) : cutV (nt txt) (some (i : Int)) (some (j : Int)) = nt (piece txt i j) := by
  unfold cutV piece
  rw [HT.sIx_nat, HT.sIx_nat, nt_len, Nat.min_eq_left hj, Nat.min_eq_left (Nat.le_trans h hj)]
  simp only [nt, List.map_take, List.map_drop]
theorem piece_len {txt : List Nat} {i j : Nat} (h : i <= j) (hj : j <= txt.length) : (piece txt i j).length = j - i := by
  unfold piece; rw [List.length_take, List.length_drop]; omega
theorem inName_inner (c : Nat) : inName (c : Int) = Vastoa.inner c := by
  unfold inName Vastoa.inner Vastoa.letter Vastoa.digit
  rw [Bool.eq_iff_iff]
  simp
  omega
theorem inName_end : inName (-1) = false := by decide
def nameTok (b : List Nat) : STok := if Vastoa.reserved.contains b then .word b else .name b
theorem kstr_nameTok (b : List Nat) : kstr (nameTok b) = kindName b := by
  unfold nameTok kindName
  split <;> rfl
theorem held_nameTok (b : List Nat) : RM.held (nameTok b) = b := by
  unfold nameTok
  split <;> rfl
def spCutName (a : Ad) (K : PySem.W.Frag) : Sp := fun vs H Q E => ∃ (z : CA) (txt : List Nat) (i : Nat) (T : Marks) (O : List Bool) (lit en : Bool), vs = [.ref z.c] /\ CutAt a K H z txt i T O lit en /\ i <= txt.length /\ T.length < 1000000 /\
  ∀ j, Run txt Vastoa.inner i j -> (∀ c, txt[j]? = some c -> Vastoa.inner c = false) -> (32 < j - i -> XWM z.M K a.Refusal H 2 i E) /\
    (j - i <= 32 -> ∀ H', Keep z.M H H' -> CutAt a K H' z txt j (T ++ [⟨i, nameTok (piece txt i j)⟩]) O lit en -> Q .non H')
section
variable {P : Program} {w : World} {K : PySem.W.Frag} {mg : Str -> Option Value} {base : Heap} {f : Addr} {fd : FuncData} {a : Ad}
theorem sc_cut_name : FnScope ["self", "end", "held"] ["self"] (defScope s_Cutter_cut_name) := ⟨rfl, rfl, rfl, by decide +kernel, rfl, by decide +kernel, by decide +kernel⟩
theorem ok_cut_name (F : Fun K "cut_name" "Cutter.cut_name" s_Cutter_cut_name f fd) (T : Tx P w K mg a) (Gb : MtAt P w K mg base CX0 1 a.Cutter "byte_at" ["self", "place"] (spByteAt a K))
    (Gi : FnAt P w K mg base CX0 2 "is_in_name" ["byte"] spInName) (Gk : FnAt P w K mg base CX0 2 "kind_of_name" ["held"] spKind) (Ga : MtAt P w K mg base CX0 3 a.Cutter "add_token" ["self", "kind", "length", "held"] (spAddTok a K))
    (Gx : XMkAt P w K mg base 2 a.WrongToken "WrongToken" ["self", "place"] (spX a.WrongToken 2 true)) : FnOk P w K mg base (CXR P w) 4 f fd ["self"] (spCutName a K) := by
  refine F.okR sc_cut_name (fun vs H Q E h => ?_) (fun cdv A outer s H vs Q E hr h => ?_)
  · obtain ⟨z, txt, i, Tk, O, lit, en, rfl, _⟩ := h; rfl
  · obtain ⟨z, txt, i, Tk, O, lit, en, rfl, hC, hi, hT, k⟩ := h
    have hr1 : Room 1 _ := hr.mono (by decide)
    have hr2 : Room 2 _ := hr.mono (by decide)
    refine ⟨_, pss_cons (ps_set (i := 1) sc_cut_name.nd rfl (Or.inl rfl) (pe_fld (pv 0) rfl))
      (pss_cons (ps_while PassesOwn.leaving (pt_val (pe_callF Gi hr2 pass0 (pa_cons (pe_methF Gb T.c_Cutter hr1 pass0 (pv 0) (pa_cons (pv 1) pa_nil)) pa_nil))) (pss_one (ps_aug (i := 1) sc_cut_name.nd rfl (Or.inl rfl) pe_int ip_add)))
      (pss_cons (ps_if (pt_cmpR op_gt (pe_op op_sub (pv 1) (pe_fld (pv 0) rfl)) (pe_gl T.g_MOST_NAME_BYTES) (nomark _)) (pss_one (ps_raiseF Gx hr (pa_cons (pe_fld (pv 0) rfl) pa_nil))) pss_nil)
      (pss_cons (ps_set (i := 2) sc_cut_name.nd rfl (Or.inl rfl) (pe_slice sl_list (pe_fld (pv 0) rfl) (po_some (pe_fld (pv 0) rfl)) (po_some (pv 1))))
      (pss_one (ps_expr (pe_methF Ga T.c_Cutter hr pass0 (pv 0) (pa_cons (pe_callF Gk hr2 pass0 (pa_cons (pv 2) pa_nil)) (pa_cons (pe_callB call_len_seq (by rfl) T.b_len PySem.boot_len (pa_cons (pv 2) pa_nil)) (pa_cons (pv 2) pa_nil))))))))), ?_⟩
    refine ⟨_, rfl, z.c, _, z.dx, _, _, rfl, hC.ins, T.c_Cutter, T.n_Cutter_place, cutF_place _ _ _ _ _ _, ?_⟩
    refine ⟨fun m σ H' => ∃ j : Nat, σ = [some (.ref z.c), some (.int (j : Int)), none] /\ CutAt a K H' z txt i Tk O lit en /\ Keep z.M H H' /\ Run txt Vastoa.inner i j /\ m = txt.length - j, ⟨_, i, rfl, hC, Keep.refl _ _, ⟨Nat.le_refl _, hi, fun x h1 h2 => by omega⟩, rfl⟩, ?_⟩
    rintro m σ H1 ⟨j, rfl, C1, k1, r1, rfl⟩
    refine ⟨_, rfl, z.c, z.dx, _, rfl, C1.ins, cutF_no_byte_at _ _ _ _ _ _, _, rfl, z.c, txt, j, rfl, C1.text, _, rfl, fun H2 s2 => ⟨_, rfl, ?_⟩⟩
    have C2 := C1.same s2
    have k2 := k1.trans (Keep.of s2)
    have over : (∀ c, txt[j]? = some c -> Vastoa.inner c = false) -> ∀ D : Ends, D.rt = Q -> D.nx = (fun _ H' => Q .non H') ->
        tSeq (tIfS (tTest (tOp (rI0 fun i j => .bl (decide (j < i))) (tOp (rI0 fun i j => .int (i - j)) (tVar 1) (tFld K (tVar 0) "place")) (tC (.int 32)))) (tRaise a.WrongToken (spX a.WrongToken 2 true) E (tCons (tFld K (tVar 0) "place") tNil)) tNext)
          (tSeq (tAsg (tSl (rSlL K) (tFld K (tVar 0) "text") (tPart (tFld K (tVar 0) "place")) (tPart (tVar 1))) (gName 2))
            (tDrop (tMeth a.Cutter "add_token" (spAddTok a K) [] E0 (tVar 0) (tCons (tCall spKind [] E0 (tCons (tVar 2) tNil)) (tCons (tCB (fun xs H Q => ∃ p ys, xs = [V.ref p] /\ (SqL K H p ys \/ SqT K H p ys) /\ Q (.int ys.length) H) (tCons (tVar 2) tNil)) (tCons (tVar 2) tNil)))))) D [some (.ref z.c), some (.int (j : Int)), none] H2 := by
      intro hend D hD hN
      obtain ⟨kx, ko⟩ := k j r1 hend
      have hij := r1.1
      refine ⟨_, rfl, _, rfl, z.c, _, z.dx, _, _, rfl, C2.ins, T.c_Cutter, T.n_Cutter_place, cutF_place _ _ _ _ _ _, _, _, rfl, rfl, _, _, rfl, rfl, _, rfl, ite2 (fun q => ?_) fun q => ?_⟩
      · have q := of_decide_eq_true q
        refine ⟨_, rfl, z.c, _, z.dx, _, _, rfl, C2.ins, T.c_Cutter, T.n_Cutter_place, cutF_place _ _ _ _ _ _, ?_⟩
        exact raise_1 T.x_WrongToken T.u_WrongToken T.n_WrongToken_number T.n_WrongToken_place ((kx (by omega)).on k2)
      · have q : ¬ (32 : Int) < (j : Int) - i := fun y => q (decide_eq_true y)
        refine ⟨_, rfl, z.c, _, z.dx, _, _, rfl, C2.ins, T.c_Cutter, T.n_Cutter_text, cutF_text _ _ _ _ _ _, _, rfl, z.c, _, z.dx, _, _, rfl, C2.ins, T.c_Cutter, T.n_Cutter_place, cutF_place _ _ _ _ _ _, _, rfl, _, rfl, _, rfl, z.a, _, rfl, C2.txt.sq, fun p hp => ?_⟩
        rw [cutV_nt txt hij r1.2.1]
        have C3 := C2.same (same_new (o := .lst (nt (piece txt i j))) hp)
        refine ⟨_, rfl, z.c, z.dx, _, rfl, C3.ins, cutF_no_add_token _ _ _ _ _ _, _, rfl, p, piece txt i j, rfl, upd_same, fun H4 s4 => ?_⟩
        have C4 := C3.same s4
        have hp4 := s4 _ _ upd_same
        refine ⟨_, rfl, p, _, rfl, .inl (SqL.of hp4), _, rfl, z, txt, i, Tk, O, lit, en, nameTok (piece txt i j), j - i, p, ?_, C4, by rw [held_nameTok]; exact hp4, C2.fresh hp, hT, fun H5 k5 C5 => ?_⟩
        · rw [kstr_nameTok, nt_len, piece_len hij r1.2.1]; rfl
        · rw [hN]
          rw [show i + (j - i) = j by omega] at C5
          exact ko (by omega) H5 (((k2.trans (Keep.new hp)).trans (Keep.of s4)).trans k5) C5
    cases e : txt[j]? with
    | none =>
      rw [byteAt_none e, inName_end]
      exact iteF (over (fun c hc => by rw [e] at hc; cases hc) _ rfl rfl)
    | some c =>
      rw [byteAt_some e, inName_inner]
      cases hin : Vastoa.inner c with
      | false => exact iteF (over (fun c' hc => by rw [e] at hc; cases hc; exact hin) _ rfl rfl)
      | true =>
        refine iteT ⟨_, fun σ' H' q => q, ?_⟩
        have hj : j < txt.length := (List.getElem?_eq_some_iff.mp e).1
        refine ⟨_, rfl, _, _, rfl, rfl, txt.length - (j + 1), by omega, j + 1, rfl, C2, k2, r1.more e hin, rfl⟩
end
end RT
end
section
set_option Elab.async false
set_option linter.all false
set_option maxRecDepth 100000
set_option maxHeartbeats 2000000
namespace RT
open PySem PySem.Spec PyProof.Rows L2
open Vastoa (Mark Marks)
def digitI (c : Int) : Bool := decide (48 <= c /\ c <= 57)
theorem digitI_digit (c : Nat) : digitI (c : Int) = Vastoa.digit c := by
  unfold digitI Vastoa.digit
  rw [Bool.eq_iff_iff]
  simp
  omega
theorem look {p : Nat -> Bool} {q : Int -> Bool} (txt : List Nat) (j : Nat) (h : ∀ c : Nat, q (c : Int) = p c) (he : q (-1) = false) : ∃ b, q (byteAt txt j) = b /\ (b = true -> ∃ c, txt[j]? = some c /\ p c = true) /\ (b = false -> ∀ c, txt[j]? = some c -> p c = false) := by
  cases e : txt[j]? with
  | none => exact ⟨false, by rw [byteAt_none e]; exact he, (fun z => by cases z), fun _ c hc => by cases hc⟩
  | some c =>
    refine ⟨p c, by rw [byteAt_some e]; exact h c, fun z => ⟨c, rfl, z⟩, fun z c' hc => ?_⟩
    cases hc; exact z
theorem or_pure {t u : TT} {σ : L2.St} {H : Hp} {Q : Bool -> Hp -> Prop} (b1 b2 : Bool) (h1 : ∀ Q : Bool -> Hp -> Prop, Q b1 H -> t σ H Q) (h2 : b1 = false -> ∀ Q : Bool -> Hp -> Prop, Q b2 H -> u σ H Q) (q : Q (b1 || b2) H) : tOr t u σ H Q := by
  refine h1 _ ?_
  cases b1 with
  | true => exact iteT q
  | false => exact iteF (h2 rfl _ q)
theorem and_pure {t u : TT} {σ : L2.St} {H : Hp} {Q : Bool -> Hp -> Prop} (b1 b2 : Bool) (h1 : ∀ Q : Bool -> Hp -> Prop, Q b1 H -> t σ H Q) (h2 : b1 = true -> ∀ Q : Bool -> Hp -> Prop, Q b2 H -> u σ H Q) (q : Q (b1 && b2) H) : tAnd t u σ H Q := by
  refine h1 _ ?_
  cases b1 with
  | true => exact iteT (h2 rfl _ q)
  | false => exact iteF q
theorem piece_first {txt : List Nat} {i j c : Nat} (h : i < j) (e : txt[i]? = some c) : (piece txt i j)[0]? = some c := by
  unfold piece
  rw [List.getElem?_take, if_pos (by omega), List.getElem?_drop]
  exact e
def spCutNumber (a : Ad) (K : PySem.W.Frag) : Sp := fun vs H Q E => ∃ (z : CA) (txt : List Nat) (i : Nat) (T : Marks) (O : List Bool) (lit en : Bool), vs = [.ref z.c] /\ CutAt a K H z txt i T O lit en /\ i <= txt.length /\ T.length < 1000000 /\
  ∀ j, Run txt Vastoa.digit i j -> (∀ c, txt[j]? = some c -> Vastoa.digit c = false) -> ((30 < j - i \/ (txt[i]? = some 48 /\ 1 < j - i)) -> XWM z.M K a.Refusal H 2 i E) /\
    (¬ (30 < j - i \/ (txt[i]? = some 48 /\ 1 < j - i)) -> ∀ H', Keep z.M H H' -> CutAt a K H' z txt j (T ++ [⟨i, .num (piece txt i j)⟩]) O lit en -> Q .non H')
section
variable {P : Program} {w : World} {K : PySem.W.Frag} {mg : Str -> Option Value} {base : Heap} {f : Addr} {fd : FuncData} {a : Ad}
theorem sc_cut_number : FnScope ["self", "end", "held"] ["self"] (defScope s_Cutter_cut_number) := ⟨rfl, rfl, rfl, by decide +kernel, rfl, by decide +kernel, by decide +kernel⟩
theorem ok_cut_number (F : Fun K "cut_number" "Cutter.cut_number" s_Cutter_cut_number f fd) (T : Tx P w K mg a) (Gb : MtAt P w K mg base CX0 1 a.Cutter "byte_at" ["self", "place"] (spByteAt a K))
    (Gi : FnAt P w K mg base CX0 1 "is_digit" ["byte"] spDigit) (Ga : MtAt P w K mg base CX0 3 a.Cutter "add_token" ["self", "kind", "length", "held"] (spAddTok a K))
    (Gx : XMkAt P w K mg base 2 a.WrongToken "WrongToken" ["self", "place"] (spX a.WrongToken 2 true)) : FnOk P w K mg base (CXR P w) 4 f fd ["self"] (spCutNumber a K) := by
  refine F.okR sc_cut_number (fun vs H Q E h => ?_) (fun cdv A outer s H vs Q E hr h => ?_)
  · obtain ⟨z, txt, i, Tk, O, lit, en, rfl, _⟩ := h; rfl
  · obtain ⟨z, txt, i, Tk, O, lit, en, rfl, hC, hi, hT, k⟩ := h
    have hr1 : Room 1 _ := hr.mono (by decide)
    refine ⟨_, pss_cons (ps_set (i := 1) sc_cut_number.nd rfl (Or.inl rfl) (pe_fld (pv 0) rfl))
      (pss_cons (ps_while PassesOwn.leaving (pt_val (pe_callF Gi hr1 pass0 (pa_cons (pe_methF Gb T.c_Cutter hr1 pass0 (pv 0) (pa_cons (pv 1) pa_nil)) pa_nil))) (pss_one (ps_aug (i := 1) sc_cut_number.nd rfl (Or.inl rfl) pe_int ip_add)))
      (pss_cons (ps_set (i := 2) sc_cut_number.nd rfl (Or.inl rfl) (pe_slice sl_list (pe_fld (pv 0) rfl) (po_some (pe_fld (pv 0) rfl)) (po_some (pv 1))))
      (pss_cons (ps_if (pw_or (pt_cmpR op_gt (pe_callB call_len_seq (by rfl) T.b_len PySem.boot_len (pa_cons (pv 2) pa_nil)) (pe_gl T.g_MOST_DIGITS) (nomark _))
        (pw_or1 (pw_and (pt_cmpR op_gt (pe_callB call_len_seq (by rfl) T.b_len PySem.boot_len (pa_cons (pv 2) pa_nil)) pe_int (nomark _))
          (pw_and1 (pt_cmpR op_eq (pe_ix ix_list (pv 2) pe_int (fun _ _ => rfl)) (pe_gl T.g_ZERO) (nomark _)))).pt)).pt
        (pss_one (ps_raiseF Gx hr (pa_cons (pe_fld (pv 0) rfl) pa_nil))) pss_nil)
      (pss_one (ps_expr (pe_methF Ga T.c_Cutter hr pass0 (pv 0) (pa_cons pe_str (pa_cons (pe_callB call_len_seq (by rfl) T.b_len PySem.boot_len (pa_cons (pv 2) pa_nil)) (pa_cons (pv 2) pa_nil))))))))), ?_⟩
    refine ⟨_, rfl, z.c, _, z.dx, _, _, rfl, hC.ins, T.c_Cutter, T.n_Cutter_place, cutF_place _ _ _ _ _ _, ?_⟩
    refine ⟨fun m σ H' => ∃ j : Nat, σ = [some (.ref z.c), some (.int (j : Int)), none] /\ CutAt a K H' z txt i Tk O lit en /\ Keep z.M H H' /\ Run txt Vastoa.digit i j /\ m = txt.length - j, ⟨_, i, rfl, hC, Keep.refl _ _, ⟨Nat.le_refl _, hi, fun x h1 h2 => by omega⟩, rfl⟩, ?_⟩
    rintro m σ H1 ⟨j, rfl, C2, k2, r1, rfl⟩
    refine ⟨_, rfl, z.c, z.dx, _, rfl, C2.ins, cutF_no_byte_at _ _ _ _ _ _, _, rfl, z.c, txt, j, rfl, C2.text, _, rfl, _, rfl, ?_⟩
    obtain ⟨b, eb, ht, hf⟩ := look txt j digitI_digit (by decide)
    show if digitI (byteAt txt j) = true then _ else _
    rw [eb]
    cases b with
    | true =>
      obtain ⟨c, e, hin⟩ := ht rfl
      refine iteT ⟨_, fun σ' H' q => q, ?_⟩
      have hj : j < txt.length := (List.getElem?_eq_some_iff.mp e).1
      exact ⟨_, rfl, _, _, rfl, rfl, txt.length - (j + 1), by omega, j + 1, rfl, C2, k2, r1.more e hin, rfl⟩
    | false =>
      obtain ⟨kx, ko⟩ := k j r1 (hf rfl)
      have hij := r1.1
      have hl : (piece txt i j).length = j - i := piece_len hij r1.2.1
      refine iteF ⟨_, rfl, z.c, _, z.dx, _, _, rfl, C2.ins, T.c_Cutter, T.n_Cutter_text, cutF_text _ _ _ _ _ _, _, rfl, z.c, _, z.dx, _, _, rfl, C2.ins, T.c_Cutter, T.n_Cutter_place, cutF_place _ _ _ _ _ _, _, rfl, _, rfl, _, rfl, z.a, _, rfl, C2.txt.sq, fun p hp => ?_⟩
      rw [cutV_nt txt hij r1.2.1]
      have C3 := C2.same (same_new (o := .lst (nt (piece txt i j))) hp)
      have k3 := k2.trans (Keep.new (o := .lst (nt (piece txt i j))) hp)
      have hp3 : (upd H1 p (.lst (nt (piece txt i j)))) p = some (.lst (nt (piece txt i j))) := upd_same
      generalize upd H1 p (.lst (nt (piece txt i j))) = H3 at C3 k3 hp3 ⊢
      dsimp only [gName, tSeq, tIfS]
      refine or_pure (decide (30 < j - i)) (decide (1 < j - i) && decide (txt[i]? = some 48)) (fun Q q => ?_) (fun _ Q q => and_pure (decide (1 < j - i)) (decide (txt[i]? = some 48)) (fun Q q => ?_) (fun h1 Q q => ?_) q) ?_
      · refine ⟨_, rfl, p, _, rfl, .inl (SqL.of hp3), _, _, rfl, rfl, _, rfl, ?_⟩
        rw [nt_len, hl, show decide ((30 : Int) < ((j - i : Nat) : Int)) = decide (30 < j - i) from decide_eq_decide.mpr (by omega)]; exact q
      · refine ⟨_, rfl, p, _, rfl, .inl (SqL.of hp3), _, _, rfl, rfl, _, rfl, ?_⟩
        rw [nt_len, hl, show decide ((1 : Int) < ((j - i : Nat) : Int)) = decide (1 < j - i) from decide_eq_decide.mpr (by omega)]; exact q
      · have h1 := of_decide_eq_true h1
        obtain ⟨c, hc, _⟩ := r1.2.2 i (Nat.le_refl _) (by omega)
        refine ⟨_, rfl, p, _, _, _, rfl, rfl, SqL.of hp3, atI_nat (j := 0) (v := V.int (c : Int)) (by unfold nt; rw [List.getElem?_map, piece_first (by omega) hc]; rfl), rfl, _, rfl, ?_⟩
        rw [dec_int, beq_flip, show decide ((48 : Int) = (c : Int)) = decide (txt[i]? = some 48) from decide_eq_decide.mpr (by rw [hc]; constructor <;> (intro y; first | (cases y; rfl) | (congr 1; omega)))]
        exact q
      · refine ite2 (fun q => ?_) fun q => ?_
        · simp only [Bool.or_eq_true, Bool.and_eq_true, decide_eq_true_eq] at q
          exact ⟨_, rfl, z.c, _, z.dx, _, _, rfl, C3.ins, T.c_Cutter, T.n_Cutter_place, cutF_place _ _ _ _ _ _, raise_1 T.x_WrongToken T.u_WrongToken T.n_WrongToken_number T.n_WrongToken_place ((kx (q.imp id And.symm)).on k3)⟩
        · simp only [Bool.or_eq_true, Bool.and_eq_true, decide_eq_true_eq] at q
          refine ⟨_, rfl, z.c, z.dx, _, rfl, C3.ins, cutF_no_add_token _ _ _ _ _ _, _, rfl, p, _, rfl, .inl (SqL.of hp3), _, rfl, z, txt, i, Tk, O, lit, en, .num (piece txt i j), j - i, p, by rw [nt_len, hl]; rfl, C3, hp3, C2.fresh hp, hT, fun H5 k5 C5 => ?_⟩
          rw [show i + (j - i) = j by omega] at C5
          exact ko (fun y => q (y.imp id And.symm)) H5 (k3.trans k5) C5
end
end RT
end
section
set_option Elab.async false
set_option linter.all false
set_option maxRecDepth 100000
set_option maxHeartbeats 2000000
namespace RT
open PySem PySem.Spec PyProof.Rows L2
open Vastoa (Mark Marks)
def spCutBrace (a : Ad) (K : PySem.W.Frag) : Sp := fun vs H Q E => ∃ (z : CA) (txt : List Nat) (i : Nat) (T : Marks) (O : List Bool) (en : Bool), vs = [.ref z.c] /\ CutAt a K H z txt i T O false en /\ T.length < 1000000 /\
  (∀ H' O', O = true :: O' -> Keep z.M H H' -> CutAt a K H' z txt (i + 1) (T ++ [⟨i, .unhole⟩]) O' true en -> Q .non H') /\
  (∀ H', O.head? ≠ some true -> Keep z.M H H' -> CutAt a K H' z txt (i + 1) (T ++ [⟨i, .sign [125]⟩]) (O.drop 1) false en -> Q .non H')
def spCutSign (a : Ad) (K : PySem.W.Frag) : Sp := fun vs H Q E => ∃ (z : CA) (txt : List Nat) (i : Nat) (T : Marks) (O : List Bool) (lit en : Bool), vs = [.ref z.c] /\ CutAt a K H z txt i T O lit en /\ i <= txt.length /\ T.length < 1000000 /\
  (Vastoa.signAt (txt.drop i) = none -> XWM z.M K a.Refusal H 2 i E) /\ ∀ x, Vastoa.signAt (txt.drop i) = some x -> ∀ H', Keep z.M H H' -> CutAt a K H' z txt (i + x.length) (T ++ [⟨i, .sign x⟩]) O lit en -> Q .non H'
theorem k_brace : Str.ofString "{" = strOf [123] := by decide +kernel
theorem k_unbrace : Str.ofString "}" = strOf [125] := by decide +kernel
theorem cutV_take (txt : List Nat) {i : Nat} (l : Nat) (hi : i <= txt.length) : cutV (nt txt) (some (i : Int)) (some ((i : Int) + (l : Int))) = nt ((txt.drop i).take l) := by
  unfold cutV
  rw [show ((i : Int) + (l : Int)) = ((i + l : Nat) : Int) by omega, HT.sIx_nat, HT.sIx_nat, nt_len, Nat.min_eq_left hi]
  simp only [nt, List.map_take, List.map_drop]
  by_cases h : i + l <= txt.length
  · rw [Nat.min_eq_left h, show i + l - i = l by omega]
  · rw [Nat.min_eq_right (by omega), List.take_of_length_le (by simp), List.take_of_length_le (by simp; omega)]
theorem signs_are : signsS.map (fun x => x.cps.toList) = Vastoa.signs2 ++ Vastoa.signs1 := by decide +kernel
theorem signs_short : ∀ x ∈ signsS, x.cps.size <= 1000 := by decide +kernel
theorem len2 : ∀ s ∈ Vastoa.signs2, s.length = 2 := by decide +kernel
theorem len1 : ∀ s ∈ Vastoa.signs1, s.length = 1 := by decide +kernel
theorem sign_hit {b : List Nat} {j : Nat} {x : Str} (hj : signsS[j]? = some x) (e : b.take x.cps.toList.length = x.cps.toList) (no : ∀ y z, y < j -> signsS[y]? = some z -> b.take z.cps.toList.length ≠ z.cps.toList) : Vastoa.signAt b = some x.cps.toList := by
  have hm : (Vastoa.signs2 ++ Vastoa.signs1)[j]? = some x.cps.toList := by rw [<- signs_are, List.getElem?_map, hj]; rfl
  have no' : ∀ y s, y < j -> (Vastoa.signs2 ++ Vastoa.signs1)[y]? = some s -> b.take s.length ≠ s := fun y s hy hs => by
    rw [<- signs_are, List.getElem?_map] at hs
    obtain ⟨z, hz, rfl⟩ := Option.map_eq_some_iff.mp hs
    exact no y z hy hz
  generalize x.cps.toList = s at e hm
  unfold Vastoa.signAt
  by_cases h6 : j < 6
  · have hs : s ∈ Vastoa.signs2 := by
      rw [List.getElem?_append_left (by exact h6)] at hm
      exact List.mem_of_getElem? hm
    rw [len2 s hs] at e
    rw [e, if_pos (List.contains_iff_mem.mpr hs)]
  · have hs : s ∈ Vastoa.signs1 := by
      rw [List.getElem?_append_right (by exact Nat.le_of_not_lt h6)] at hm
      exact List.mem_of_getElem? hm
    rw [len1 s hs] at e
    have n2 : ¬ (Vastoa.signs2.contains (b.take 2) = true) := fun z => by
      have z := List.contains_iff_mem.mp z
      obtain ⟨y, hy⟩ := List.getElem?_of_mem z
      have hy6 : y < 6 := (List.getElem?_eq_some_iff.mp hy).1
      refine no' y _ (by omega) (by rw [List.getElem?_append_left hy6]; exact hy) ?_
      rw [len2 _ z]
    rw [if_neg n2, e, if_pos (List.contains_iff_mem.mpr hs)]
theorem sign_none {b : List Nat} (no : ∀ (y : Nat) (z : Str), signsS[y]? = some z -> b.take z.cps.toList.length ≠ z.cps.toList) : Vastoa.signAt b = none := by
  have no' : ∀ s ∈ Vastoa.signs2 ++ Vastoa.signs1, b.take s.length ≠ s := fun s hs => by
    rw [<- signs_are] at hs
    obtain ⟨z, hz, rfl⟩ := List.mem_map.mp hs
    obtain ⟨y, hy⟩ := List.getElem?_of_mem hz
    exact no y z hy
  unfold Vastoa.signAt
  rw [if_neg, if_neg]
  · intro z
    have z := List.contains_iff_mem.mp z
    exact no' _ (List.mem_append_right _ z) (by rw [len1 _ z])
  · intro z
    have z := List.contains_iff_mem.mp z
    exact no' _ (List.mem_append_left _ z) (by rw [len2 _ z])
section
variable {P : Program} {w : World} {K : PySem.W.Frag} {mg : Str -> Option Value} {base : Heap} {f : Addr} {fd : FuncData} {a : Ad}
theorem sc_cut_right_brace : FnScope ["self", "closed"] ["self"] (defScope s_Cutter_cut_right_brace) := ⟨rfl, rfl, rfl, by decide +kernel, rfl, by decide +kernel, by decide +kernel⟩
theorem ok_cut_right_brace (F : Fun K "cut_right_brace" "Cutter.cut_right_brace" s_Cutter_cut_right_brace f fd) (T : Tx P w K mg a) (Ga : MtAt P w K mg base CX0 3 a.Cutter "add_token" ["self", "kind", "length", "held"] (spAddTok a K)) :
    FnOk P w K mg base CX0 4 f fd ["self"] (spCutBrace a K) := by
  refine F.ok sc_cut_right_brace (fun vs H Q E h => ?_) (fun cdv A outer s H vs Q E hr h => ?_)
  · obtain ⟨z, txt, i, Tk, O, en, rfl, _⟩ := h; rfl
  · obtain ⟨z, txt, i, Tk, O, en, rfl, hC, hT, k1, k2⟩ := h
    refine ⟨_, pss_cons (ps_set (i := 1) sc_cut_right_brace.nd rfl (Or.inl rfl) (pe_ifExp (pt_truth (pe_fld (pv 0) rfl) (by intro _; rfl)) (pe_bm0 PySem.F.plainAttrs_list PySem.F.slot_list_pop PySem.F.type_list_pop mt_pop (pe_fld (pv 0) rfl)) pe_str))
      (pss_one (ps_if (pt_cmpR op_eq (pv 1) pe_str (nomark _)) (pss_cons (ps_expr (pe_methF Ga T.c_Cutter hr pass0 (pv 0) (pa_cons pe_str (pa_cons pe_int (pa_cons (pe_lst pa_nil) pa_nil))))) (pss_one (ps_fld (pv 0) pe_bl rfl)))
        (pss_one (ps_expr (pe_methF Ga T.c_Cutter hr pass0 (pv 0) (pa_cons pe_str (pa_cons pe_int (pa_cons (pe_lst pa_nil) pa_nil)))))))), ?_⟩
    refine ⟨_, rfl, z.c, _, z.dx, _, _, rfl, hC.ins, T.c_Cutter, T.n_Cutter_opened, cutF_opened _ _ _ _ _ _, _, .inl ⟨_, SqL.of hC.ol, rfl⟩, ?_⟩
    have unb : O.head? ≠ some true -> ∀ (H1 : Hp) (p : Addr), H1 p = none -> Keep z.M H H1 -> CutAt a K H1 z txt i Tk (O.drop 1) false en ->
        spAddTok a K [.ref z.c, .str "}", .int 1, .ref p] (upd H1 p (.lst [])) (fun x H' => Q .non H') E0 := fun hO H1 p hp k3 C1 => by
      refine ⟨z, txt, i, Tk, O.drop 1, false, en, .sign [125], 1, p, by rw [k_unbrace]; rfl, C1.same (same_new hp), upd_same, C1.fresh hp, hT, fun H' k4 C4 => ?_⟩
      exact k2 H' hO ((k3.trans (Keep.new hp)).trans k4) C4
    cases O with
    | nil =>
      refine iteF ⟨_, rfl, rfl, _, rfl, iteF ?_⟩
      exact ⟨_, rfl, z.c, z.dx, _, rfl, hC.ins, cutF_no_add_token _ _ _ _ _ _, Nat.zero_le _, fun p hp => unb (by simp) H p hp (Keep.refl _ _) hC⟩
    | cons b O =>
      have hne : (!(List.map opS (b :: O).reverse).isEmpty) = true := by simp
      rw [hne]
      have hpop : (List.map opS (b :: O).reverse)[(List.map opS (b :: O).reverse).length - 1]? = some (opS b) := by simp
      refine iteT ⟨_, rfl, z.c, _, z.dx, _, _, rfl, hC.ins, T.c_Cutter, T.n_Cutter_opened, cutF_opened _ _ _ _ _ _, .inl ⟨rfl, _, SqL.of hC.ol⟩, z.ol, _, opS b, rfl, rfl, hC.ol, hpop, ?_⟩
      have ed : (List.map opS (b :: O).reverse).dropLast = List.map opS O.reverse := by simp
      rw [ed]
      have C1 := hC.putO O
      have k3 : Keep z.M H (upd H z.ol (.lst (List.map opS O.reverse))) := Keep.at_ z.mo
      generalize upd H z.ol (.lst (List.map opS O.reverse)) = H1 at C1 k3 ⊢
      cases b with
      | false =>
        refine ⟨_, rfl, rfl, _, rfl, iteF ?_⟩
        exact ⟨_, rfl, z.c, z.dx, _, rfl, C1.ins, cutF_no_add_token _ _ _ _ _ _, Nat.zero_le _, fun p hp => unb (by simp) H1 p hp k3 C1⟩
      | true =>
        refine ⟨_, rfl, rfl, _, rfl, iteT ?_⟩
        refine ⟨_, rfl, z.c, z.dx, _, rfl, C1.ins, cutF_no_add_token _ _ _ _ _ _, Nat.zero_le _, fun p hp => ⟨z, txt, i, Tk, O, false, en, .unhole, 1, p, rfl, C1.same (same_new hp), upd_same, C1.fresh hp, hT, fun H' k4 C4 => ?_⟩⟩
        refine ⟨_, rfl, z.c, _, z.dx, _, rfl, C4.ins, T.c_Cutter, T.n_Cutter_in_literal, (by show 6 < 1000; decide), ?_⟩
        exact k1 _ O rfl (((k3.trans (Keep.new hp)).trans k4).trans (Keep.at_ z.mc)) (C4.put (i + 1) true en)
theorem sc_cut_sign : FnScope ["self", "sign"] ["self"] (defScope s_Cutter_cut_sign) := ⟨rfl, rfl, rfl, by decide +kernel, rfl, by decide +kernel, by decide +kernel⟩
theorem ok_cut_sign (F : Fun K "cut_sign" "Cutter.cut_sign" s_Cutter_cut_sign f fd) (T : Tx P w K mg a) (Gy : FnAt P w K mg base CX0 1 "bytes_of" ["written"] spBytes) (Ga : MtAt P w K mg base CX0 3 a.Cutter "add_token" ["self", "kind", "length", "held"] (spAddTok a K))
    (Gx : XMkAt P w K mg base 2 a.WrongToken "WrongToken" ["self", "place"] (spX a.WrongToken 2 true)) : FnOk P w K mg base (CXR P w) 4 f fd ["self"] (spCutSign a K) := by
  refine F.okR sc_cut_sign (fun vs H Q E h => ?_) (fun cdv A outer s H vs Q E hr h => ?_)
  · obtain ⟨z, txt, i, Tk, O, lit, en, rfl, _⟩ := h; rfl
  · obtain ⟨z, txt, i, Tk, O, lit, en, rfl, hC, hi, hT, kx, ko⟩ := h
    have hr1 : Room 1 _ := hr.mono (by decide)
    refine ⟨_, pss_cons (ps_for PassesOwn.leaving rfl (pi_tup (pe_gl T.g_SIGNS)) (pg_name (i := 1) sc_cut_sign.nd rfl (Or.inl rfl))
      (pss_one (ps_if (pt_cmpR (op_eqD hr.units) (pe_slice sl_list (pe_fld (pv 0) rfl) (po_some (pe_fld (pv 0) rfl)) (po_some (pe_op op_add (pe_fld (pv 0) rfl) (pe_callB call_len_str (by rfl) T.b_len PySem.boot_len (pa_cons (pv 1) pa_nil))))) (pe_callF Gy hr1 pass0 (pa_cons (pv 1) pa_nil)) (nomark _))
        (pss_cons (ps_expr (pe_methF Ga T.c_Cutter hr pass0 (pv 0) (pa_cons (pv 1) (pa_cons (pe_callB call_len_str (by rfl) T.b_len PySem.boot_len (pa_cons (pv 1) pa_nil)) (pa_cons (pe_lst pa_nil) pa_nil))))) (pss_one ps_retN)) pss_nil)))
      (pss_one (ps_raiseF Gx hr (pa_cons (pe_fld (pv 0) rfl) pa_nil))), ?_⟩
    refine ⟨a.SIGNS, rfl, ⟨_, T.t_SIGNS.sq _⟩, for_tup (K := K) (a := a.SIGNS) (xs := signsS.map V.str) (fun j σ H' => ∃ v : Option V, σ = [some (.ref z.c), v] /\ CutAt a K H' z txt i Tk O lit en /\ Keep z.M H H' /\ ∀ y x, y < j -> signsS[y]? = some x -> (txt.drop i).take x.cps.toList.length ≠ x.cps.toList)
      ⟨none, rfl, hC, Keep.refl _ _, fun j x hj => absurd hj (Nat.not_lt_zero _)⟩ (fun i σ H' _ _ => T.t_SIGNS.sq _) ?_ ?_⟩
    · rintro j y σ H1 hj ⟨v, rfl, C1, k1, hno⟩
      obtain ⟨x, hx, rfl⟩ : ∃ x, signsS[j]? = some x /\ V.str x = y := by
        rw [List.getElem?_map] at hj
        exact Option.map_eq_some_iff.mp hj
      have hsz : x.cps.size <= 1000 := signs_short x (List.mem_of_getElem? hx)
      refine ⟨_, rfl, z.c, _, z.dx, _, _, rfl, C1.ins, T.c_Cutter, T.n_Cutter_text, cutF_text _ _ _ _ _ _, _, rfl, z.c, _, z.dx, _, _, rfl, C1.ins, T.c_Cutter, T.n_Cutter_place, cutF_place _ _ _ _ _ _, _, rfl, _, rfl, z.c, _, z.dx, _, _, rfl, C1.ins, T.c_Cutter, T.n_Cutter_place, cutF_place _ _ _ _ _ _, _, rfl, x, rfl, Nat.le_of_lt (small1000 hsz), _, _, rfl, rfl, _, rfl, z.a, _, rfl, C1.txt.sq, fun p hp => ?_⟩
      rw [show ((i : Int) + (x.length : Int)) = (i : Int) + (x.cps.toList.length : Int) from rfl, cutV_take txt _ hi]
      refine ⟨_, rfl, x, rfl, hsz, fun q hq => eqD_nt (SqL.of (same_new hq _ _ upd_same)) (SqL.of upd_same) ⟨_, rfl, ?_⟩⟩
      have s2 := (same_new (o := .lst (nt ((txt.drop i).take x.cps.toList.length))) hp).trans (same_new (o := .lst (nt x.cps.toList)) hq)
      have C2 := C1.same s2
      have k2 := k1.trans (Keep.of s2)
      refine ite2 (fun e => ?_) fun e => ?_
      · have e := of_decide_eq_true e
        have hs := sign_hit hx e hno
        refine ⟨_, rfl, z.c, z.dx, _, rfl, C2.ins, cutF_no_add_token _ _ _ _ _ _, _, rfl, _, rfl, x, rfl, Nat.le_of_lt (small1000 hsz), Nat.zero_le _, fun r hr' => ⟨z, txt, i, Tk, O, lit, en, .sign x.cps.toList, x.cps.toList.length, r, ?_, C2.same (same_new hr'), upd_same, C2.fresh hr', hT, fun H5 k5 C5 => ?_⟩⟩
        · rfl
        · exact ko _ hs H5 ((k2.trans (Keep.new hr')).trans k5) C5
      · refine ⟨_, rfl, C2, k2, fun y x' hy hx' => ?_⟩
        by_cases hyj : y = j
        · subst hyj
          rw [hx] at hx'
          cases hx'
          exact fun z => e (decide_eq_true z)
        · exact hno y x' (by omega) hx'
    · rintro σ H1 ⟨v, rfl, C1, k1, hno⟩
      refine ⟨_, rfl, z.c, _, z.dx, _, _, rfl, C1.ins, T.c_Cutter, T.n_Cutter_place, cutF_place _ _ _ _ _ _, raise_1 T.x_WrongToken T.u_WrongToken T.n_WrongToken_number T.n_WrongToken_place ((kx (sign_none fun y x hx => ?_)).on k1)⟩
      exact hno y x (by have := (List.getElem?_eq_some_iff.mp hx).1; rw [List.length_map]; exact this) hx
end
end RT
end
section
set_option Elab.async false
set_option linter.all false
set_option maxRecDepth 100000
set_option maxHeartbeats 2000000
namespace RT
open PySem PySem.Spec PyProof.Rows L2
open Vastoa (Mark Marks)
def over (txt : List Nat) (i : Nat) : Bool := match txt[i]? with
  | none => true
  | some c => if c = 36 then decide (txt[i + 1]? = some 123) else decide (c = 34)
theorem over_none {txt : List Nat} {i : Nat} (h : txt[i]? = none) : over txt i = true := by unfold over; rw [h]
theorem over_some {txt : List Nat} {i c : Nat} (h : txt[i]? = some c) : over txt i = if c = 36 then decide (txt[i + 1]? = some 123) else decide (c = 34) := by unfold over; rw [h]
def spOver (a : Ad) (K : PySem.W.Frag) : Sp := fun vs H Q E => ∃ (z : CA) (txt : List Nat) (i : Nat) (T : Marks) (O : List Bool) (lit en : Bool), vs = [.ref z.c] /\ CutAt a K H z txt i T O lit en /\ ∀ H', Same H H' -> Q (.bl (over txt i)) H'
theorem CutAt.move {a : Ad} {K : PySem.W.Frag} {H H' : Hp} {z : CA} {txt : List Nat} {i i' : Nat} {T : Marks} {O : List Bool} {lit en lit' en' : Bool} (h : CutAt a K H z txt i T O lit en)
    (hc : H' z.c = some (.ins a.Cutter z.dx (cutF (.ref z.a) (.int i') (.ref z.tl) (.ref z.ol) (.bl lit') (.bl en')))) (k : Keep (· = z.c) H H') : CutAt a K H' z txt i' T O lit' en' := by
  obtain ⟨as, h1, h2⟩ := h.tl
  refine ⟨hc, h.txt.keep (k.wide fun b e => by rw [e]; exact z.mc), ⟨as, k _ _ h1 (Ne.symm h.nct), paired_imp (fun x y q => ?_) h2⟩, k _ _ h.ol (Ne.symm h.nco), h.nto⟩
  obtain ⟨dx, ha, q1, q2, q3, q4⟩ := q
  exact ⟨dx, ha, k _ _ q1 (fun e => q3 (.inl e)), k _ _ q2 (fun e => q4 (.inl e)), q3, q4⟩
def insAt (a : Ad) (z : CA) (i : Nat) (lit en : Bool) : HO := .ins a.Cutter z.dx (cutF (.ref z.a) (.int i) (.ref z.tl) (.ref z.ol) (.bl lit) (.bl en))
def spGather (a : Ad) (K : PySem.W.Frag) : Sp := fun vs H Q E => ∃ (z : CA) (txt : List Nat) (i : Nat) (T : Marks) (O : List Bool) (lit en : Bool), vs = [.ref z.c] /\ CutAt a K H z txt i T O lit en /\ over txt i = false /\
  (∀ H' j x, Keep (· = z.c) H H' -> H' z.c = some (insAt a z j lit en) -> i < j -> j <= txt.length -> Vastoa.gather i (txt.drop i) = (Vastoa.gather j (txt.drop j)).map (fun y => (x :: y.1, y.2.1, y.2.2)) -> Q (.int (x : Int)) H') /\
  (Vastoa.gather i (txt.drop i) = .error ⟨2, i⟩ -> XWM (· = z.c) K a.Refusal H 2 i E)
theorem esc_val (c : Nat) : (valV escD (Sum.inl (c : Int))).getD .non = match Vastoa.unescape c with
    | some x => V.int (x : Int)
    | none => V.non := by
  unfold Vastoa.unescape
  by_cases h1 : c = 34
  · subst h1; decide +kernel
  by_cases h2 : c = 92
  · subst h2; decide +kernel
  by_cases h3 : c = 110
  · subst h3; decide +kernel
  by_cases h4 : c = 116
  · subst h4; decide +kernel
  by_cases h5 : c = 36
  · subst h5; decide +kernel
  rw [if_neg (by omega), if_neg h3, if_neg h4]
  have q1 : ¬ (34 : Int) = c := by omega
  have q2 : ¬ (92 : Int) = c := by omega
  have q3 : ¬ (110 : Int) = c := by omega
  have q4 : ¬ (116 : Int) = c := by omega
  have q5 : ¬ (36 : Int) = c := by omega
  simp [valV, escD, q1, q2, q3, q4, q5]
theorem esc_end : (valV escD (Sum.inl (-1))).getD .non = .non := by decide +kernel
section
variable {P : Program} {w : World} {K : PySem.W.Frag} {mg : Str -> Option Value} {base : Heap} {f : Addr} {fd : FuncData} {a : Ad}
theorem sc_is_piece_over : FnScope ["self", "byte"] ["self"] (defScope s_Cutter_is_piece_over) := ⟨rfl, rfl, rfl, by decide +kernel, rfl, by decide +kernel, by decide +kernel⟩
theorem ok_is_piece_over (F : Fun K "is_piece_over" "Cutter.is_piece_over" s_Cutter_is_piece_over f fd) (T : Tx P w K mg a) (Gb : MtAt P w K mg base CX0 1 a.Cutter "byte_at" ["self", "place"] (spByteAt a K)) : FnOk P w K mg base CX0 2 f fd ["self"] (spOver a K) := by
  refine F.ok sc_is_piece_over (fun vs H Q E h => ?_) (fun cdv A outer s H vs Q E hr h => ?_)
  · obtain ⟨z, txt, i, Tk, O, lit, en, rfl, _⟩ := h; rfl
  · obtain ⟨z, txt, i, Tk, O, lit, en, rfl, hC, k⟩ := h
    refine ⟨_, pss_cons (ps_set (i := 1) sc_is_piece_over.nd rfl (Or.inl rfl) (pe_methF Gb T.c_Cutter hr pass0 (pv 0) (pa_cons (pe_fld (pv 0) rfl) pa_nil)))
      (pss_cons (ps_if (pt_cmpR op_eq (pv 1) (pe_gl T.g_DOLLAR) (nomark _)) (pss_one (ps_ret (pe_cmpR op_eq (pe_methF Gb T.c_Cutter hr pass0 (pv 0) (pa_cons (pe_op op_add (pe_fld (pv 0) rfl) pe_int) pa_nil)) (pe_gl T.g_LEFT_BRACE) (nomark _)))) pss_nil)
      (pss_one (ps_ret (pe_inT (pv 1) (pa_cons (pe_gl T.g_QUOTE) (pa_cons (pe_gl T.g_NOTHING) pa_nil)))))), ?_⟩
    refine ⟨_, rfl, z.c, z.dx, _, rfl, hC.ins, cutF_no_byte_at _ _ _ _ _ _, _, rfl, z.c, _, z.dx, _, _, rfl, hC.ins, T.c_Cutter, T.n_Cutter_place, cutF_place _ _ _ _ _ _, z.c, txt, i, rfl, hC.text, ?_⟩
    refine ⟨_, rfl, rfl, _, rfl, ?_⟩
    rw [dec_int, beq_flip]
    refine ite2 (fun e => ?_) fun e => ?_
    · have e := of_decide_eq_true e
      refine ⟨_, rfl, z.c, z.dx, _, rfl, hC.ins, cutF_no_byte_at _ _ _ _ _ _, _, rfl, z.c, _, z.dx, _, _, rfl, hC.ins, T.c_Cutter, T.n_Cutter_place, cutF_place _ _ _ _ _ _, _, _, rfl, rfl, z.c, txt, i + 1, rfl, hC.text, rfl, ?_⟩
      rw [dec_int, beq_flip]
      have : over txt i = decide ((123 : Int) = byteAt txt (i + 1)) := by
        cases h : txt[i]? with
        | none => rw [byteAt_none h] at e; omega
        | some c =>
          rw [byteAt_some h] at e
          rw [over_some h, if_pos (by omega)]
          cases h2 : txt[i + 1]? with
          | none => rw [byteAt_none h2]; decide
          | some d =>
            rw [byteAt_some h2]
            exact decide_eq_decide.mpr ⟨fun y => by cases y; rfl, fun y => by congr 1; omega⟩
      rw [this] at k
      exact k H (Same.refl H)
    · have e : ¬ (36 : Int) = byteAt txt i := fun y => e (decide_eq_true y)
      refine ⟨_, rfl, rfl, fun H' s' => ?_⟩
      have : over txt i = inV (.int (byteAt txt i)) [V.int 34, V.int (-1)] := by
        simp only [inV, List.any_cons, List.any_nil, eqV, beq_flip, Bool.or_false]
        cases h : txt[i]? with
        | none => rw [over_none h, byteAt_none h]; decide
        | some c =>
          rw [byteAt_some h] at e ⊢
          rw [over_some h, if_neg (by omega)]
          by_cases h34 : c = 34
          · subst h34; decide
          · rw [decide_eq_false h34, decide_eq_false (by omega), decide_eq_false (by omega)]; rfl
      have k := k H' s'
      rw [this] at k
      exact k
theorem sc_gather_byte : FnScope ["self", "byte"] ["self"] (defScope s_Cutter_gather_byte) := ⟨rfl, rfl, rfl, by decide +kernel, rfl, by decide +kernel, by decide +kernel⟩
theorem ok_gather_byte (F : Fun K "gather_byte" "Cutter.gather_byte" s_Cutter_gather_byte f fd) (T : Tx P w K mg a) (Gb : MtAt P w K mg base CX0 1 a.Cutter "byte_at" ["self", "place"] (spByteAt a K))
    (Gx : XMkAt P w K mg base 2 a.WrongToken "WrongToken" ["self", "place"] (spX a.WrongToken 2 true)) : FnOk P w K mg base (CXR P w) 4 f fd ["self"] (spGather a K) := by
  refine F.okR sc_gather_byte (fun vs H Q E h => ?_) (fun cdv A outer s H vs Q E hr h => ?_)
  · obtain ⟨z, txt, i, Tk, O, lit, en, rfl, _⟩ := h; rfl
  · obtain ⟨z, txt, i, Tk, O, lit, en, rfl, hC, ho, ko, kx⟩ := h
    have hr1 : Room 1 _ := hr.mono (by decide)
    refine ⟨_, pss_cons (ps_set (i := 1) sc_gather_byte.nd rfl (Or.inl rfl) (pe_methF Gb T.c_Cutter hr1 pass0 (pv 0) (pa_cons (pe_fld (pv 0) rfl) pa_nil)))
      (pss_cons (ps_if (pt_cmpR op_eq (pv 1) (pe_gl T.g_BACKSLASH) (nomark _))
        (pss_cons (ps_set (i := 1) sc_gather_byte.nd rfl (Or.inl rfl) (pe_kget1 (pe_gl T.g_ESCAPES) (pe_methF Gb T.c_Cutter hr1 pass0 (pv 0) (pa_cons (pe_op op_add (pe_fld (pv 0) rfl) pe_int) pa_nil)) ⟨rfl, rfl, rfl, rfl⟩))
        (pss_cons (ps_if (pt_cmp (pc_isN (pv 1))) (pss_one (ps_raiseF Gx hr (pa_cons (pe_fld (pv 0) rfl) pa_nil))) pss_nil)
        (pss_cons (ps_fldaug (pv 0) pe_int in_add) (pss_one (ps_ret (pv 1)))))) pss_nil)
      (pss_cons (ps_if (pw_and (pt_cmpR op_lt (pv 1) (pe_gl T.g_BLANK) (nomark _)) (pw_and1 (pt_notInT (pv 1) (pa_cons (pe_gl T.g_TAB) (pa_cons (pe_gl T.g_LINE_FEED) pa_nil))))).pt
        (pss_one (ps_raiseF Gx hr (pa_cons (pe_fld (pv 0) rfl) pa_nil))) pss_nil)
      (pss_cons (ps_fldaug (pv 0) pe_int in_add) (pss_one (ps_ret (pv 1)))))), ?_⟩
    have bad : ∀ (H1 : Hp), Same H H1 -> Vastoa.gather i (txt.drop i) = .error ⟨2, i⟩ -> XW K a.Refusal H1 2 i E := fun H1 s1 hg => (kx hg).on (Keep.of s1)
    refine ⟨_, rfl, z.c, z.dx, _, rfl, hC.ins, cutF_no_byte_at _ _ _ _ _ _, _, rfl, z.c, _, z.dx, _, _, rfl, hC.ins, T.c_Cutter, T.n_Cutter_place, cutF_place _ _ _ _ _ _, z.c, txt, i, rfl, hC.text, ?_⟩
    obtain ⟨c, hc⟩ : ∃ c, txt[i]? = some c := by
      cases h : txt[i]? with
      | none => unfold over at ho; rw [h] at ho; cases ho
      | some c => exact ⟨c, rfl⟩
    have hi := CM.lt_of hc
    rw [byteAt_some hc]
    refine ⟨_, rfl, rfl, _, rfl, ?_⟩
    rw [dec_int, beq_flip]
    refine ite2 (fun e => ?_) fun e => ?_
    · have e : c = 92 := by have := of_decide_eq_true e; omega
      subst e
      refine ⟨a.ESCAPES, escD, rfl, T.d_ESCAPES, _, rfl, z.c, z.dx, _, rfl, hC.ins, cutF_no_byte_at _ _ _ _ _ _, _, rfl, z.c, _, z.dx, _, _, rfl, hC.ins, T.c_Cutter, T.n_Cutter_place, cutF_place _ _ _ _ _ _, _, _, rfl, rfl, z.c, txt, i + 1, rfl, hC.text, Sum.inl (byteAt txt (i + 1)), rfl, _, rfl, _, rfl, ?_⟩
      have fin : (valV escD (Sum.inl (byteAt txt (i + 1)))).getD .non = .non -> Vastoa.gather i (txt.drop i) = .error ⟨2, i⟩ := fun hn => by
        cases h2 : txt[i + 1]? with
        | none => exact CM.gather_last hc h2
        | some d =>
          rw [byteAt_some h2, esc_val] at hn
          refine CM.gather_wrong hc h2 ?_
          cases hu : Vastoa.unescape d with
          | none => rfl
          | some x => rw [hu] at hn; cases hn
      refine ite2 (fun q => ?_) fun q => ?_
      · have q := of_decide_eq_true q
        refine ⟨_, rfl, z.c, _, z.dx, _, _, rfl, hC.ins, T.c_Cutter, T.n_Cutter_place, cutF_place _ _ _ _ _ _, ?_⟩
        exact raise_1 T.x_WrongToken T.u_WrongToken T.n_WrongToken_number T.n_WrongToken_place (bad H (Same.refl H) (fin q))
      · have q : ¬ (valV escD (Sum.inl (byteAt txt (i + 1)))).getD .non = .non := fun y => q (decide_eq_true y)
        obtain ⟨d, x, h2, hu⟩ : ∃ d x, txt[i + 1]? = some d /\ Vastoa.unescape d = some x := by
          cases h2 : txt[i + 1]? with
          | none => rw [byteAt_none h2] at q; exact absurd esc_end q
          | some d =>
            rw [byteAt_some h2, esc_val] at q
            cases hu : Vastoa.unescape d with
            | none => rw [hu] at q; exact absurd rfl q
            | some x => exact ⟨d, x, rfl, hu⟩
        have ev : (valV escD (Sum.inl (byteAt txt (i + 1)))).getD .non = .int (x : Int) := by rw [byteAt_some h2, esc_val, hu]
        rw [ev]
        refine ⟨_, rfl, z.c, _, z.dx, _, _, rfl, hC.ins, T.c_Cutter, T.n_Cutter_place, cutF_place _ _ _ _ _ _, _, _, rfl, rfl, z.dx, _, hC.ins, (by show 6 < 1000; decide), ?_⟩
        refine ⟨_, rfl, ?_⟩
        exact ko _ (i + 2) x (Keep.at_ rfl) upd_same (by omega) (CM.lt_of h2) (CM.gather_escape hc h2 hu)
    · have e : ¬ c = 92 := fun y => e (decide_eq_true (by omega))
      have ga := CM.gather_any hc e
      have n1 : ¬ (c = 34 \/ (c = 36 /\ txt[i + 1]? = some 123)) := by
        unfold over at ho
        rw [hc] at ho
        dsimp only at ho
        by_cases h36 : c = 36
        · rw [if_pos h36] at ho
          have := of_decide_eq_false ho
          rintro (y | ⟨_, y⟩)
          · omega
          · exact this y
        · rw [if_neg h36] at ho
          have := of_decide_eq_false ho
          rintro (y | ⟨y, _⟩)
          · exact this y
          · exact h36 y
      rw [if_neg n1] at ga
      have last : ∀ H1, Same H H1 -> ¬ (c < 32 /\ c ≠ 9 /\ c ≠ 10) -> Q (.int (c : Int)) (upd H1 z.c (insAt a z (i + 1) lit en)) := fun H1 s1 hn => by
        rw [if_neg hn] at ga
        exact ko _ (i + 1) c ((Keep.of s1).trans (Keep.at_ rfl)) upd_same (by omega) (by omega) ga
      refine ⟨_, rfl, _, _, rfl, rfl, _, rfl, ite2 (fun h32 => ?_) fun h32 => ?_⟩
      · have h32 : c < 32 := by have := of_decide_eq_true h32; omega
        refine ⟨_, rfl, rfl, fun H1 s1 => ⟨_, rfl, ?_⟩⟩
        have C1 := hC.same s1
        have hin : inV (.int (c : Int)) [V.int 9, V.int 10] = decide (c = 9 \/ c = 10) := by
          simp only [inV, List.any_cons, List.any_nil, eqV, beq_flip, Bool.or_false]
          rw [<- Bool.decide_or]
          exact decide_eq_decide.mpr (by omega)
        rw [hin]
        refine ite2 (fun q => ?_) fun q => ?_
        · have q : ¬ (c = 9 \/ c = 10) := by simpa using q
          rw [if_pos ⟨h32, fun y => q (.inl y), fun y => q (.inr y)⟩] at ga
          refine ⟨_, rfl, z.c, _, z.dx, _, _, rfl, C1.ins, T.c_Cutter, T.n_Cutter_place, cutF_place _ _ _ _ _ _, ?_⟩
          exact raise_1 T.x_WrongToken T.u_WrongToken T.n_WrongToken_number T.n_WrongToken_place (bad H1 s1 ga)
        · have q : c = 9 \/ c = 10 := by
            by_cases y : c = 9 \/ c = 10
            · exact y
            · exact absurd (by rw [decide_eq_false y]; rfl) q
          refine ⟨_, rfl, z.c, _, z.dx, _, _, rfl, C1.ins, T.c_Cutter, T.n_Cutter_place, cutF_place _ _ _ _ _ _, _, _, rfl, rfl, z.dx, _, C1.ins, (by show 6 < 1000; decide), _, rfl, ?_⟩
          exact last H1 s1 (fun y => by rcases q with q | q <;> simp [q] at y)
      · have h32 : ¬ c < 32 := fun y => h32 (decide_eq_true (by omega))
        refine iteF ⟨_, rfl, z.c, _, z.dx, _, _, rfl, hC.ins, T.c_Cutter, T.n_Cutter_place, cutF_place _ _ _ _ _ _, _, _, rfl, rfl, z.dx, _, hC.ins, (by show 6 < 1000; decide), _, rfl, ?_⟩
        exact last H (Same.refl H) (fun y => h32 y.1)
end
end RT
end
section
set_option Elab.async false
set_option linter.all false
set_option maxRecDepth 100000
set_option maxHeartbeats 2000000
namespace RT
open PySem PySem.Spec PyProof.Rows L2
open Vastoa (Mark Marks)
def spCutPiece (a : Ad) (K : PySem.W.Frag) : Sp := fun vs H Q E => ∃ (z : CA) (txt : List Nat) (i : Nat) (T : Marks) (O : List Bool) (lit en : Bool), vs = [.ref z.c] /\ CutAt a K H z txt i T O lit en /\ i <= txt.length /\ txt.length <= 5000 /\ T.length < 1000000 /\
  (∀ H' j g, Keep z.M H H' -> CutAt a K H' z txt j (T ++ CM.pieceOf i g) O lit en -> i + g.length <= j -> CM.Gath txt i g j -> over txt j = true -> Q .non H') /\
  (∀ p, Vastoa.gather i (txt.drop i) = .error ⟨2, p⟩ -> XWM z.M K a.Refusal H 2 p E)
theorem small1000' {n : Nat} (h : n <= 1000000) : n < sizeLine := Nat.lt_of_le_of_lt h (by decide)
theorem XWM.wide {M M' : Addr -> Prop} {K : PySem.W.Frag} {S : Addr} {H : Hp} {n p : Int} {E : XK} (h : XWM M' K S H n p E) (i : ∀ b, M b -> M' b) : XWM M K S H n p E := fun C dx H' k x => h C dx H' (k.wide i) x
theorem nt_snoc (g : List Nat) (x : Nat) : nt g ++ [.int (x : Int)] = nt (g ++ [x]) := by simp [nt]
section
variable {P : Program} {w : World} {K : PySem.W.Frag} {mg : Str -> Option Value} {base : Heap} {f : Addr} {fd : FuncData} {a : Ad}
theorem sc_cut_piece : FnScope ["self", "first", "held"] ["self"] (defScope s_Cutter_cut_piece) := ⟨rfl, rfl, rfl, by decide +kernel, rfl, by decide +kernel, by decide +kernel⟩
theorem ok_cut_piece (F : Fun K "cut_piece" "Cutter.cut_piece" s_Cutter_cut_piece f fd) (T : Tx P w K mg a) (Go : MtAt P w K mg base CX0 2 a.Cutter "is_piece_over" ["self"] (spOver a K)) (Gg : MtAt P w K mg base (CXR P w) 4 a.Cutter "gather_byte" ["self"] (spGather a K))
    (Gt : MkAt P w K mg base CX0 1 a.Token "Token" ["self", "kind", "place", "held"] (spTok a)) : FnOk P w K mg base (CXR P w) 5 f fd ["self"] (spCutPiece a K) := by
  refine F.okR sc_cut_piece (fun vs H Q E h => ?_) (fun cdv A outer s H vs Q E hr h => ?_)
  · obtain ⟨z, txt, i, Tk, O, lit, en, rfl, _⟩ := h; rfl
  · obtain ⟨z, txt, i, Tk, O, lit, en, rfl, hC, hi, hlen, hT, ko, kx⟩ := h
    have hr1 : Room 1 _ := hr.mono (by decide)
    have hr2 : Room 2 _ := hr.mono (by decide)
    refine ⟨_, pss_cons (ps_set (i := 1) sc_cut_piece.nd rfl (Or.inl rfl) (pe_fld (pv 0) rfl))
      (pss_cons (ps_set (i := 2) sc_cut_piece.nd rfl (Or.inl rfl) (pe_lst pa_nil))
      (pss_cons (ps_while PassesOwn.leaving (pt_not (pt_val (pe_methF0 Go T.c_Cutter hr2 pass0 (pv 0)))) (pss_one (ps_expr (pe_bm PySem.F.plainAttrs_list PySem.F.slot_list_append PySem.F.type_list_append mt_append (pv 2) (pa_cons (pe_methF0 Gg T.c_Cutter hr pass_r (pv 0)) pa_nil)))))
      (pss_one (ps_if (pt_truth (pv 2) (by intro _; rfl)) (pss_one (ps_expr (pe_bm PySem.F.plainAttrs_list PySem.F.slot_list_append PySem.F.type_list_append mt_append (pe_fld (pv 0) rfl) (pa_cons (pe_makeF Gt hr2 pass0 (pa_cons pe_str (pa_cons (pv 1) (pa_cons (pv 2) pa_nil)))) pa_nil)))) pss_nil)))), ?_⟩
    refine ⟨_, rfl, z.c, _, z.dx, _, _, rfl, hC.ins, T.c_Cutter, T.n_Cutter_place, cutF_place _ _ _ _ _ _, ?_⟩
    refine ⟨Nat.zero_le _, fun p hp => ?_⟩
    have np := hC.fresh hp
    refine ⟨fun m σ H' => σ = [some (.ref z.c), some (.int (i : Int)), some (.ref p)] /\ ∃ (j : Nat) (g : List Nat), H' z.c = some (insAt a z j lit en) /\ Keep (· = z.c) H H' /\ H' p = some (.lst (nt g)) /\ i + g.length <= j /\ CM.Gath txt i g j /\ m = txt.length - j,
      ⟨_, rfl, i, [], ?_, Keep.new hp, upd_same, Nat.le_refl _, CM.gath_start hi, rfl⟩, ?_⟩
    · rw [upd_ne (ne_of_none hC.ins hp)]; exact hC.ins
    rintro m σ H1 ⟨rfl, j, g, h1, k1, hp1, hgj, G1, rfl⟩
    have C1 := hC.move h1 k1
    refine ⟨_, rfl, z.c, z.dx, _, rfl, C1.ins, cutF_no_is_piece_over _ _ _ _ _ _, z, txt, j, Tk, O, lit, en, rfl, C1, fun H2 s2 => ⟨_, rfl, ?_⟩⟩
    have C2 := C1.same s2
    have k2 := k1.trans (Keep.of s2)
    have hp2 := s2 _ _ hp1
    have pc : p ≠ z.c := fun e => np (by rw [e]; exact z.mc)
    cases ho : over txt j with
    | false =>
      refine iteT ⟨_, fun σ' H' q => q, ?_⟩
      refine ⟨_, rfl, .inl ⟨rfl, _, SqL.of hp2⟩, _, rfl, z.c, z.dx, _, rfl, C2.ins, cutF_no_gather_byte _ _ _ _ _ _, z, txt, j, Tk, O, lit, en, rfl, C2, ho, fun H3 j' x k3 h3 hjj hj' eg => ?_, fun hg => ?_⟩
      · have hp3 := k3 _ _ hp2 pc
        have hj1 : j' <= txt.length := hj'
        refine ⟨p, _, _, rfl, rfl, hp3, by rw [nt_len]; exact small1000' (by omega), ?_⟩
        rw [nt_snoc]
        refine ⟨txt.length - j', by omega, rfl, j', g ++ [x], by rw [upd_ne (Ne.symm pc)]; exact h3, fun b o e n => ?_, upd_same, by simp; omega, CM.gath_more G1 hj' eg, rfl⟩
        rw [upd_ne (ne_of_none e hp)]
        exact (k2.trans k3) b o e n
      · have := kx j (CM.gath_bad G1 hg)
        exact (this.from (k2.wide fun b e => by rw [e]; exact z.mc)).wide fun b e => by rw [e]; exact z.mc
    | true =>
      have k2' : Keep z.M H H2 := k2.wide fun b e => by rw [e]; exact z.mc
      refine iteF ⟨_, rfl, _, .inl ⟨_, SqL.of hp2, rfl⟩, ?_⟩
      cases g with
      | nil =>
        refine iteF ?_
        refine ko H2 j [] k2' ?_ hgj G1 ho
        show CutAt a K H2 z txt j (Tk ++ []) O lit en
        rw [List.append_nil]; exact C2
      | cons x g =>
        obtain ⟨as, t1, t2⟩ := C2.tl
        refine iteT ⟨_, rfl, z.c, _, z.dx, _, _, rfl, C2.ins, T.c_Cutter, T.n_Cutter_tokens, cutF_tokens _ _ _ _ _ _, .inl ⟨rfl, _, SqL.of t1⟩, ?_⟩
        refine ⟨_, rfl, _, rfl, ?_⟩
        intro t dx ht hdx hne
        refine ⟨t, dx, _, _, _, rfl, upd_same, rfl, ?_⟩
        rw [upd_upd]
        have s3 : Same H2 (upd (upd H2 dx (.own t)) t (.ins a.Token dx (tokF (.str "piece") (.int i) (.ref p)))) := fun b o e => by rw [upd_ne (ne_of_none e ht), upd_ne (ne_of_none e hdx)]; exact e
        have C3 := C2.same s3
        have tk : TokAt a z.M (upd (upd H2 dx (.own t)) t (.ins a.Token dx (tokF (.str "piece") (.int i) (.ref p)))) t ⟨i, .piece (x :: g)⟩ := ⟨dx, p, upd_same, s3 _ _ hp2, C2.fresh ht, np⟩
        have t1' := s3 _ _ t1
        refine ⟨z.tl, _, _, rfl, rfl, t1', ?_, ?_⟩
        · rw [List.length_map, Paired.length t2]; exact Nat.lt_trans hT (by decide)
        exact ko _ j (x :: g) ((k2'.trans (Keep.of s3)).trans (Keep.at_ z.mt)) (C3.putT t1' tk) hgj G1 ho
end
end RT
end
section
set_option Elab.async false
set_option linter.all false
set_option maxRecDepth 100000
set_option maxHeartbeats 2000000
namespace RT
open PySem PySem.Spec PyProof.Rows L2
open Vastoa (Mark Marks)
structure CutRes (a : Ad) (K : PySem.W.Frag) (z : CA) (txt : List Nat) (H : Hp) (i : Nat) (Q : Hp -> Prop) (E : XK) : Prop where
  done : ∀ H' T' O' i', Keep z.M H H' -> Vastoa.tokens txt = .ok T' -> T'.length <= i' + 1 -> i' <= txt.length -> CutAt a K H' z txt i' T' O' false true -> Q H'
  more : ∀ H' n lit O' i' T', Keep z.M H H' -> CM.Here txt n lit O' i' T' -> i < i' -> T'.length <= i' -> O'.length <= i' -> CutAt a K H' z txt i' T' O' lit false -> Q H'
  fail : ∀ p : Nat, Vastoa.tokens txt = .error ⟨2, p⟩ -> XWM z.M K a.Refusal H 2 p E
def spCutStep (lit : Bool) (a : Ad) (K : PySem.W.Frag) : Sp := fun vs H Q E => ∃ (z : CA) (txt : List Nat) (n i : Nat) (T : Marks) (O : List Bool), vs = [.ref z.c] /\ CutAt a K H z txt i T O lit false /\ CM.Here txt n lit O i T /\ T.length <= i /\ O.length <= i /\ txt.length <= 5000 /\
  CutRes a K z txt H i (Q .non) E
theorem opS_snoc (b : Bool) (O : List Bool) : O.reverse.map opS ++ [opS b] = (b :: O).reverse.map opS := by simp
section
variable {P : Program} {w : World} {K : PySem.W.Frag} {mg : Str -> Option Value} {base : Heap} {f : Addr} {fd : FuncData} {a : Ad}
theorem sc_cut_literal : FnScope ["self", "byte"] ["self"] (defScope s_Cutter_cut_literal) := ⟨rfl, rfl, rfl, by decide +kernel, rfl, by decide +kernel, by decide +kernel⟩
theorem ok_cut_literal (F : Fun K "cut_literal" "Cutter.cut_literal" s_Cutter_cut_literal f fd) (T : Tx P w K mg a) (Gb : MtAt P w K mg base CX0 1 a.Cutter "byte_at" ["self", "place"] (spByteAt a K)) (Gp : MtAt P w K mg base (CXR P w) 5 a.Cutter "cut_piece" ["self"] (spCutPiece a K))
    (Ga : MtAt P w K mg base CX0 3 a.Cutter "add_token" ["self", "kind", "length", "held"] (spAddTok a K)) (Gx : XMkAt P w K mg base 2 a.WrongToken "WrongToken" ["self", "place"] (spX a.WrongToken 2 true)) : FnOk P w K mg base (CXR P w) 6 f fd ["self"] (spCutStep true a K) := by
  refine F.okR sc_cut_literal (fun vs H Q E h => ?_) (fun cdv A outer s H vs Q E hr h => ?_)
  · obtain ⟨z, txt, n, i, Tk, O, rfl, _⟩ := h; rfl
  · obtain ⟨z, txt, n, i, Tk, O, rfl, hC, hH, hT, hO, hlen, R⟩ := h
    have hr1 : Room 1 _ := hr.mono (by decide)
    have hr3 : Room 3 _ := hr.mono (by decide)
    refine ⟨_, pss_cons (ps_expr (pe_methF0 Gp T.c_Cutter hr pass_r (pv 0)))
      (pss_cons (ps_set (i := 1) sc_cut_literal.nd rfl (Or.inl rfl) (pe_methF Gb T.c_Cutter hr1 pass0 (pv 0) (pa_cons (pe_fld (pv 0) rfl) pa_nil)))
      (pss_cons (ps_if (pt_cmpR op_eq (pv 1) (pe_gl T.g_NOTHING) (nomark _)) (pss_one (ps_raiseF Gx hr3 (pa_cons (pe_fld (pv 0) rfl) pa_nil))) pss_nil)
      (pss_cons (ps_if (pt_cmpR op_eq (pv 1) (pe_gl T.g_QUOTE) (nomark _)) (pss_one (ps_expr (pe_methF Ga T.c_Cutter hr3 pass0 (pv 0) (pa_cons pe_str (pa_cons pe_int (pa_cons (pe_lst pa_nil) pa_nil))))))
        (pss_cons (ps_expr (pe_bm PySem.F.plainAttrs_list PySem.F.slot_list_append PySem.F.type_list_append mt_append (pe_fld (pv 0) rfl) (pa_cons pe_str pa_nil))) (pss_one (ps_expr (pe_methF Ga T.c_Cutter hr3 pass0 (pv 0) (pa_cons pe_str (pa_cons pe_int (pa_cons (pe_lst pa_nil) pa_nil))))))))
      (pss_one (ps_fld (pv 0) pe_bl rfl))))), ?_⟩
    have hle := hH.le
    refine ⟨_, rfl, z.c, z.dx, _, rfl, hC.ins, cutF_no_cut_piece _ _ _ _ _ _, z, txt, i, Tk, O, true, false, rfl, hC, hH.le, hlen, by omega, fun H1 j g k1 C1 hgj G1 ho => ?_, fun p hp => R.fail p (CM.lit_bad hH hp)⟩
    have hj := G1.1
    have hTl : (Tk ++ CM.pieceOf i g).length <= j := by
      unfold CM.pieceOf
      cases g with
      | nil => simp; omega
      | cons x g => simp at hgj ⊢; omega
    refine ⟨_, rfl, z.c, z.dx, _, rfl, C1.ins, cutF_no_byte_at _ _ _ _ _ _, _, rfl, z.c, _, z.dx, _, _, rfl, C1.ins, T.c_Cutter, T.n_Cutter_place, cutF_place _ _ _ _ _ _, z.c, txt, j, rfl, C1.text, ?_⟩
    refine ⟨_, rfl, rfl, _, rfl, ?_⟩
    rw [dec_int]
    cases e : txt[j]? with
    | none =>
      rw [byteAt_none e]
      refine iteT ⟨_, rfl, z.c, _, z.dx, _, _, rfl, C1.ins, T.c_Cutter, T.n_Cutter_place, cutF_place _ _ _ _ _ _, ?_⟩
      exact raise_1 T.x_WrongToken T.u_WrongToken T.n_WrongToken_number T.n_WrongToken_place ((R.fail j (CM.lit_bad hH (CM.gath_bad G1 (CM.gather_nil e)))).on k1)
    | some c =>
      rw [byteAt_some e, show ((c : Int) == -1) = false from beq_eq_false_iff_ne.mpr (by omega)]
      refine iteF ⟨_, rfl, rfl, _, rfl, ?_⟩
      rw [dec_int, beq_flip]
      have hjl := CM.lt_of e
      refine ite2 (fun q => ?_) fun q => ?_
      · have q : c = 34 := by have := of_decide_eq_true q; omega
        subst q
        have ge : Vastoa.gather i (txt.drop i) = .ok (g, j, txt.drop j) := CM.gath_over G1 (by rw [CM.gather_any e (by decide), if_pos (.inl rfl)])
        have H2 := CM.lit_quote hH (by omega) ge e
        refine ⟨_, rfl, z.c, z.dx, _, rfl, C1.ins, cutF_no_add_token _ _ _ _ _ _, Nat.zero_le _, fun p hp => ⟨z, txt, j, Tk ++ CM.pieceOf i g, O, true, false, .unquote, 1, p, rfl, C1.same (same_new hp), upd_same, C1.fresh hp, by omega, fun H3 k3 C3 => ?_⟩⟩
        refine ⟨_, rfl, z.c, _, z.dx, _, rfl, C3.ins, T.c_Cutter, T.n_Cutter_in_literal, (by show 6 < 1000; decide), ?_⟩
        refine R.more _ _ false O (j + 1) _ (((k1.trans (Keep.new hp)).trans k3).trans (Keep.at_ z.mc)) H2 (by omega) ?_ (by omega) (C3.put (j + 1) false false)
        rw [List.length_append]; show (Tk ++ CM.pieceOf i g).length + 1 <= _; omega
      · have q : ¬ c = 34 := fun y => q (decide_eq_true (by omega))
        rw [over_some e] at ho
        have h36 : c = 36 := by
          by_cases y : c = 36
          · exact y
          · rw [if_neg y] at ho; exact absurd (of_decide_eq_true ho) q
        subst h36
        have e3 : txt[j + 1]? = some 123 := of_decide_eq_true ho
        have ge : Vastoa.gather i (txt.drop i) = .ok (g, j, txt.drop j) := CM.gath_over G1 (by rw [CM.gather_any e (by decide), if_pos (.inr ⟨rfl, e3⟩)])
        have H2 := CM.lit_hole hH (by omega) ge e e3
        refine ⟨_, rfl, z.c, _, z.dx, _, _, rfl, C1.ins, T.c_Cutter, T.n_Cutter_opened, cutF_opened _ _ _ _ _ _, .inl ⟨rfl, _, SqL.of C1.ol⟩, z.ol, _, _, rfl, rfl, C1.ol, by rw [List.length_map, List.length_reverse]; exact small1000' (by omega), ?_⟩
        rw [show (V.str (Str.ofString "hole")) = opS true from rfl, opS_snoc]
        have C2 := C1.putO (true :: O)
        have k2 := k1.trans (Keep.at_ (o := .lst ((true :: O).reverse.map opS)) z.mo)
        refine ⟨_, rfl, z.c, z.dx, _, rfl, C2.ins, cutF_no_add_token _ _ _ _ _ _, Nat.zero_le _, fun p hp => ⟨z, txt, j, Tk ++ CM.pieceOf i g, true :: O, true, false, .hole, 2, p, rfl, C2.same (same_new hp), upd_same, C2.fresh hp, by omega, fun H3 k3 C3 => ?_⟩⟩
        refine ⟨_, rfl, z.c, _, z.dx, _, rfl, C3.ins, T.c_Cutter, T.n_Cutter_in_literal, (by show 6 < 1000; decide), ?_⟩
        refine R.more _ _ false (true :: O) (j + 2) _ (((k2.trans (Keep.new hp)).trans k3).trans (Keep.at_ z.mc)) H2 (by omega) ?_ (by simp; omega) (C3.put (j + 2) false false)
        rw [List.length_append]; show (Tk ++ CM.pieceOf i g).length + 1 <= _; omega
end
end RT
end
section
set_option Elab.async false
set_option linter.all false
set_option maxRecDepth 100000
set_option maxHeartbeats 2000000
namespace RT
open PySem PySem.Spec PyProof.Rows L2
open Vastoa (Mark Marks)
theorem letterI (c : Nat) : decide (65 <= (c : Int) /\ (c : Int) <= 90 \/ 97 <= (c : Int) /\ (c : Int) <= 122) = Vastoa.letter c := by
  unfold Vastoa.letter
  rw [Bool.eq_iff_iff]
  simp
  omega
theorem blankI (c : Nat) : inV (.int (c : Int)) [V.int 32, V.int 9, V.int 10, V.int 13] = Vastoa.blank c := by
  simp only [inV, List.any_cons, List.any_nil, eqV, beq_flip, Bool.or_false]
  unfold Vastoa.blank
  rw [Bool.eq_iff_iff]
  simp
  omega
section
variable {P : Program} {w : World} {K : PySem.W.Frag} {mg : Str -> Option Value} {base : Heap} {f : Addr} {fd : FuncData} {a : Ad}
theorem sc_cut_outside : FnScope ["self", "byte"] ["self"] (defScope s_Cutter_cut_outside) := ⟨rfl, rfl, rfl, by decide +kernel, rfl, by decide +kernel, by decide +kernel⟩
theorem ok_cut_outside (F : Fun K "cut_outside" "Cutter.cut_outside" s_Cutter_cut_outside f fd) (T : Tx P w K mg a) (Gb : MtAt P w K mg base CX0 1 a.Cutter "byte_at" ["self", "place"] (spByteAt a K)) (Ga : MtAt P w K mg base CX0 3 a.Cutter "add_token" ["self", "kind", "length", "held"] (spAddTok a K))
    (Gl : FnAt P w K mg base CX0 1 "is_letter" ["byte"] spLetter) (Gd : FnAt P w K mg base CX0 1 "is_digit" ["byte"] spDigit) (Gc : MtAt P w K mg base CX0 2 a.Cutter "pass_comment" ["self"] (spPassComment a K)) (Gn : MtAt P w K mg base (CXR P w) 4 a.Cutter "cut_name" ["self"] (spCutName a K))
    (Gu : MtAt P w K mg base (CXR P w) 4 a.Cutter "cut_number" ["self"] (spCutNumber a K)) (Gr : MtAt P w K mg base CX0 4 a.Cutter "cut_right_brace" ["self"] (spCutBrace a K)) (Gs : MtAt P w K mg base (CXR P w) 4 a.Cutter "cut_sign" ["self"] (spCutSign a K)) : FnOk P w K mg base (CXR P w) 6 f fd ["self"] (spCutStep false a K) := by
  refine F.okR sc_cut_outside (fun vs H Q E h => ?_) (fun cdv A outer s H vs Q E hr h => ?_)
  · obtain ⟨z, txt, n, i, Tk, O, rfl, _⟩ := h; rfl
  · obtain ⟨z, txt, n, i, Tk, O, rfl, hC, hH, hT, hO, hlen, R⟩ := h
    have hr1 : Room 1 _ := hr.mono (by decide)
    have hr2 : Room 2 _ := hr.mono (by decide)
    have hr3 : Room 3 _ := hr.mono (by decide)
    have hr4 : Room 4 _ := hr.mono (by decide)
    refine ⟨_, pss_cons (ps_set (i := 1) sc_cut_outside.nd rfl (Or.inl rfl) (pe_methF Gb T.c_Cutter hr1 pass0 (pv 0) (pa_cons (pe_fld (pv 0) rfl) pa_nil)))
      (pss_one (ps_if (pt_cmpR op_eq (pv 1) (pe_gl T.g_NOTHING) (nomark _)) (pss_cons (ps_expr (pe_methF Ga T.c_Cutter hr3 pass0 (pv 0) (pa_cons pe_str (pa_cons pe_int (pa_cons (pe_lst pa_nil) pa_nil))))) (pss_one (ps_fld (pv 0) pe_bl rfl)))
      (pss_one (ps_if (pt_inT (pv 1) (pa_cons (pe_gl T.g_BLANK) (pa_cons (pe_gl T.g_TAB) (pa_cons (pe_gl T.g_LINE_FEED) (pa_cons (pe_gl T.g_RETURN) pa_nil))))) (pss_one (ps_fldaug (pv 0) pe_int in_add))
      (pss_one (ps_if (pt_cmpR op_eq (pv 1) (pe_gl T.g_HASH) (nomark _)) (pss_one (ps_expr (pe_methF0 Gc T.c_Cutter hr2 pass0 (pv 0))))
      (pss_one (ps_if (pt_val (pe_callF Gl hr1 pass0 (pa_cons (pv 1) pa_nil))) (pss_one (ps_expr (pe_methF0 Gn T.c_Cutter hr4 pass_r (pv 0))))
      (pss_one (ps_if (pt_val (pe_callF Gd hr1 pass0 (pa_cons (pv 1) pa_nil))) (pss_one (ps_expr (pe_methF0 Gu T.c_Cutter hr4 pass_r (pv 0))))
      (pss_one (ps_if (pt_cmpR op_eq (pv 1) (pe_gl T.g_QUOTE) (nomark _)) (pss_cons (ps_expr (pe_methF Ga T.c_Cutter hr3 pass0 (pv 0) (pa_cons pe_str (pa_cons pe_int (pa_cons (pe_lst pa_nil) pa_nil))))) (pss_one (ps_fld (pv 0) pe_bl rfl)))
      (pss_one (ps_if (pt_cmpR op_eq (pv 1) (pe_gl T.g_LEFT_BRACE) (nomark _)) (pss_cons (ps_expr (pe_bm PySem.F.plainAttrs_list PySem.F.slot_list_append PySem.F.type_list_append mt_append (pe_fld (pv 0) rfl) (pa_cons pe_str pa_nil)))
        (pss_one (ps_expr (pe_methF Ga T.c_Cutter hr3 pass0 (pv 0) (pa_cons pe_str (pa_cons pe_int (pa_cons (pe_lst pa_nil) pa_nil)))))))
      (pss_one (ps_if (pt_cmpR op_eq (pv 1) (pe_gl T.g_RIGHT_BRACE) (nomark _)) (pss_one (ps_expr (pe_methF0 Gr T.c_Cutter hr4 pass0 (pv 0)))) (pss_one (ps_expr (pe_methF0 Gs T.c_Cutter hr4 pass_r (pv 0)))))))))))))))))))), ?_⟩
    have hle := hH.le
    have hT6 : Tk.length < 1000000 := by omega
    refine ⟨_, rfl, z.c, z.dx, _, rfl, hC.ins, cutF_no_byte_at _ _ _ _ _ _, _, rfl, z.c, _, z.dx, _, _, rfl, hC.ins, T.c_Cutter, T.n_Cutter_place, cutF_place _ _ _ _ _ _, z.c, txt, i, rfl, hC.text, ?_⟩
    refine ⟨_, rfl, rfl, _, rfl, ?_⟩
    rw [dec_int]
    cases e : txt[i]? with
    | none =>
      rw [byteAt_none e]
      refine iteT ⟨_, rfl, z.c, z.dx, _, rfl, hC.ins, cutF_no_add_token _ _ _ _ _ _, Nat.zero_le _, fun p hp => ⟨z, txt, i, Tk, O, false, false, .fin, 0, p, rfl, hC.same (same_new hp), upd_same, hC.fresh hp, hT6, fun H3 k3 C3 => ?_⟩⟩
      refine ⟨_, rfl, z.c, _, z.dx, _, rfl, C3.ins, T.c_Cutter, T.n_Cutter_ended, (by show 6 < 1000; decide), ?_⟩
      exact R.done _ _ O i (((Keep.new hp).trans k3).trans (Keep.at_ z.mc)) (CM.at_end hH e) (by simp; omega) hle (C3.put i false true)
    | some c =>
      have hil := CM.lt_of e
      rw [byteAt_some e, show ((c : Int) == -1) = false from beq_eq_false_iff_ne.mpr (by omega)]
      refine iteF ⟨_, rfl, rfl, fun H1 s1 => ⟨_, rfl, ?_⟩⟩
      have C1 := hC.same s1
      have k1 : Keep z.M H H1 := Keep.of s1
      show if inV (.int (c : Int)) [V.int 32, V.int 9, V.int 10, V.int 13] = true then _ else _
      rw [blankI]
      refine ite2 (fun hb => ?_) fun hb => ?_
      · refine ⟨_, rfl, z.c, _, z.dx, _, _, rfl, C1.ins, T.c_Cutter, T.n_Cutter_place, cutF_place _ _ _ _ _ _, _, _, rfl, rfl, z.dx, _, C1.ins, (by show 6 < 1000; decide), ?_⟩
        exact R.more _ _ false O (i + 1) Tk (k1.trans (Keep.at_ z.mc)) (CM.at_blank hH e hb) (by omega) (by omega) (by omega) (C1.put (i + 1) false false)
      have hb : Vastoa.blank c = false := by simpa using hb
      refine ⟨_, rfl, rfl, _, rfl, ?_⟩
      rw [dec_int, beq_flip]
      refine ite2 (fun h35 => ?_) fun h35 => ?_
      · have h35 : c = 35 := by have := of_decide_eq_true h35; omega
        subst h35
        refine ⟨_, rfl, z.c, z.dx, _, rfl, C1.ins, cutF_no_pass_comment _ _ _ _ _ _, z, txt, i, Tk, O, false, false, rfl, C1, hle, fun H2 j k2 C2 r2 e2 => ?_⟩
        have hij : i < j := by
          rcases Nat.lt_or_ge i j with y | y
          · exact y
          · have : i = j := Nat.le_antisymm r2.1 y
            subst this
            have := e2 35 e
            omega
        have H2' := CM.at_comment (k := j - i) hH e (by have := r2.2.1; omega) (by omega) (fun x hx => by
          obtain ⟨c, h1, h2⟩ := r2.2.2 (i + x) (by omega) (by omega)
          exact ⟨c, h1, by simpa using h2⟩) (fun x hx => e2 x (by rw [show i + (j - i) = j by omega] at hx; exact hx))
        rw [show i + (j - i) = j by omega] at H2'
        exact R.more H2 _ false O j Tk (k1.trans k2) H2' hij (by omega) (by omega) C2
      have h35 : ¬ c = 35 := fun y => h35 (decide_eq_true (by omega))
      refine ⟨_, rfl, _, rfl, _, rfl, ?_⟩
      rw [letterI]
      refine ite2 (fun hl => ?_) fun hl => ?_
      · refine ⟨_, rfl, z.c, z.dx, _, rfl, C1.ins, cutF_no_cut_name _ _ _ _ _ _, z, txt, i, Tk, O, false, false, rfl, C1, hle, hT6, fun j r2 e2 => ?_⟩
        have hij : i < j := by
          rcases Nat.lt_or_ge i j with y | y
          · exact y
          · have : i = j := Nat.le_antisymm r2.1 y
            subst this
            have := e2 c e
            unfold Vastoa.inner at this
            rw [hl] at this
            cases this
        have H2' := CM.at_name (k := j - i) hH e hl (by have := r2.2.1; omega) (by omega) (fun x hx => r2.2.2 (i + x) (by omega) (by omega)) (fun x hx => e2 x (by rw [show i + (j - i) = j by omega] at hx; exact hx))
        rw [show i + (j - i) = j by omega] at H2'
        refine ⟨fun hx => (R.fail i (H2'.1 hx)).from k1, fun hx H2 k2 C2 => ?_⟩
        exact R.more H2 _ false O j _ (k1.trans k2) (H2'.2 hx) hij (by simp; omega) (by omega) C2
      have hl : Vastoa.letter c = false := by simpa using hl
      refine ⟨_, rfl, _, rfl, _, rfl, ?_⟩
      show if digitI (c : Int) = true then _ else _
      rw [digitI_digit]
      refine ite2 (fun hd => ?_) fun hd => ?_
      · refine ⟨_, rfl, z.c, z.dx, _, rfl, C1.ins, cutF_no_cut_number _ _ _ _ _ _, z, txt, i, Tk, O, false, false, rfl, C1, hle, hT6, fun j r2 e2 => ?_⟩
        have hij : i < j := by
          rcases Nat.lt_or_ge i j with y | y
          · exact y
          · have : i = j := Nat.le_antisymm r2.1 y
            subst this
            have := e2 c e
            rw [hd] at this
            cases this
        have H2' := CM.at_number (k := j - i) hH e hd (by have := r2.2.1; omega) (by omega) (fun x hx => r2.2.2 (i + x) (by omega) (by omega)) (fun x hx => e2 x (by rw [show i + (j - i) = j by omega] at hx; exact hx))
        rw [show i + (j - i) = j by omega] at H2'
        have e48 : txt[i]? = some 48 ↔ c = 48 := ⟨fun y => by rw [e] at y; exact Option.some.inj y, fun y => by rw [e, y]⟩
        rw [e48]
        refine ⟨fun hx => (R.fail i (H2'.1 hx)).from k1, fun hx H2 k2 C2 => ?_⟩
        exact R.more H2 _ false O j _ (k1.trans k2) (H2'.2 hx) hij (by simp; omega) (by omega) C2
      have hd : Vastoa.digit c = false := by simpa using hd
      refine ⟨_, rfl, rfl, _, rfl, ?_⟩
      rw [dec_int, beq_flip]
      refine ite2 (fun h34 => ?_) fun h34 => ?_
      · have h34 : c = 34 := by have := of_decide_eq_true h34; omega
        subst h34
        refine ⟨_, rfl, z.c, z.dx, _, rfl, C1.ins, cutF_no_add_token _ _ _ _ _ _, Nat.zero_le _, fun p hp => ⟨z, txt, i, Tk, O, false, false, .quote, 1, p, rfl, C1.same (same_new hp), upd_same, C1.fresh hp, hT6, fun H3 k3 C3 => ?_⟩⟩
        refine ⟨_, rfl, z.c, _, z.dx, _, rfl, C3.ins, T.c_Cutter, T.n_Cutter_in_literal, (by show 6 < 1000; decide), ?_⟩
        exact R.more _ _ true O (i + 1) _ (((k1.trans (Keep.new hp)).trans k3).trans (Keep.at_ z.mc)) (CM.at_quote hH e) (by omega) (by simp; omega) (by omega) (C3.put (i + 1) true false)
      have h34 : ¬ c = 34 := fun y => h34 (decide_eq_true (by omega))
      refine ⟨_, rfl, rfl, _, rfl, ?_⟩
      rw [dec_int, beq_flip]
      refine ite2 (fun h123 => ?_) fun h123 => ?_
      · have h123 : c = 123 := by have := of_decide_eq_true h123; omega
        subst h123
        refine ⟨_, rfl, z.c, _, z.dx, _, _, rfl, C1.ins, T.c_Cutter, T.n_Cutter_opened, cutF_opened _ _ _ _ _ _, .inl ⟨rfl, _, SqL.of C1.ol⟩, z.ol, _, _, rfl, rfl, C1.ol, by rw [List.length_map, List.length_reverse]; exact small1000' (by omega), ?_⟩
        rw [show (V.str (Str.ofString "brace")) = opS false from rfl, opS_snoc]
        have C2 := C1.putO (false :: O)
        have k2 := k1.trans (Keep.at_ (o := .lst ((false :: O).reverse.map opS)) z.mo)
        refine ⟨_, rfl, z.c, z.dx, _, rfl, C2.ins, cutF_no_add_token _ _ _ _ _ _, Nat.zero_le _, fun p hp => ⟨z, txt, i, Tk, false :: O, false, false, .sign [123], 1, p, by rw [k_brace]; rfl, C2.same (same_new hp), upd_same, C2.fresh hp, hT6, fun H3 k3 C3 => ?_⟩⟩
        exact R.more _ _ false (false :: O) (i + 1) _ ((k2.trans (Keep.new hp)).trans k3) (CM.at_brace hH e) (by omega) (by simp; omega) (by simp; omega) C3
      have h123 : ¬ c = 123 := fun y => h123 (decide_eq_true (by omega))
      refine ⟨_, rfl, rfl, _, rfl, ?_⟩
      rw [dec_int, beq_flip]
      refine ite2 (fun h125 => ?_) fun h125 => ?_
      · have h125 : c = 125 := by have := of_decide_eq_true h125; omega
        subst h125
        refine ⟨_, rfl, z.c, z.dx, _, rfl, C1.ins, cutF_no_cut_right_brace _ _ _ _ _ _, z, txt, i, Tk, O, false, rfl, C1, hT6, fun H2 O' eO k2 C2 => ?_, fun H2 hO' k2 C2 => ?_⟩
        · subst eO
          exact R.more H2 _ true O' (i + 1) _ (k1.trans k2) (CM.at_unhole hH e) (by omega) (by simp; omega) (by simp at hO; omega) C2
        · exact R.more H2 _ false (O.drop 1) (i + 1) _ (k1.trans k2) (CM.at_unbrace hH e hO') (by omega) (by simp; omega) (by simp; omega) C2
      have h125 : ¬ c = 125 := fun y => h125 (decide_eq_true (by omega))
      have hoth : CM.other c = true := by simp [CM.other, hb, h35, hl, hd, h34, h123, h125]
      obtain ⟨s1', s2'⟩ := CM.at_sign hH e hoth
      refine ⟨_, rfl, z.c, z.dx, _, rfl, C1.ins, cutF_no_cut_sign _ _ _ _ _ _, z, txt, i, Tk, O, false, false, rfl, C1, hle, hT6, fun hx => (R.fail i (s1' hx)).from k1, fun x hx H2 k2 C2 => ?_⟩
      have h0 := (CM.signAt_len hx).2.1
      exact R.more H2 _ false O (i + x.length) _ (k1.trans k2) (s2' x hx) (by omega) (by simp; omega) (by omega) C2
end
end RT
end
section
set_option Elab.async false
set_option linter.all false
set_option maxRecDepth 100000
set_option maxHeartbeats 2000000
namespace RT
open PySem PySem.Spec PyProof.Rows L2
open Vastoa (Mark Marks)
def spCutterInit (a : Ad) (K : PySem.W.Frag) : Sp := fun vs H Q E => ∃ (c dx ta : Addr) (txt : List Nat), vs = [.ref c, .ref ta] /\ H c = some (.ins a.Cutter dx []) /\ SqL K H ta (nt txt) /\
  ∀ H' z, z.c = c -> H z.tl = none -> H z.ol = none -> (∀ b o, H b = some o -> b ≠ c -> H' b = some o) -> CutAt a K H' z txt 0 [] [] false false -> Q .non H'
abbrev M0 : Addr -> Prop := fun _ => False
def spCut (a : Ad) (K : PySem.W.Frag) : Sp := fun vs H Q E => ∃ (ta : Addr) (txt : List Nat), vs = [.ref ta] /\ SqL K H ta (nt txt) /\ txt.length <= 5000 /\
  (∀ H' p as T, Same H H' -> Vastoa.tokens txt = .ok T -> T.length <= txt.length + 1 -> H' p = some (.lst (as.map V.ref)) -> Paired (TokAt a M0 H') as T -> Q (.ref p) H') /\
  (∀ p : Nat, Vastoa.tokens txt = .error ⟨2, p⟩ -> XW K a.Refusal H 2 p E)
theorem TokAt.free {a : Ad} {M : Addr -> Prop} {H : Hp} {t : Addr} {m : Mark} (h : TokAt a M H t m) : TokAt a M0 H t m := by
  obtain ⟨dx, ha, h1, h2, _, _⟩ := h
  exact ⟨dx, ha, h1, h2, id, id⟩
section
variable {P : Program} {w : World} {K : PySem.W.Frag} {mg : Str -> Option Value} {base : Heap} {f : Addr} {fd : FuncData} {a : Ad}
theorem sc_Cutter_init : FnScope ["self", "text"] ["self", "text"] (defScope s_Cutter_init) := ⟨rfl, rfl, rfl, by decide +kernel, rfl, by decide +kernel, by decide +kernel⟩
theorem ok_Cutter_init (F : Fun K "__init__" "Cutter.__init__" s_Cutter_init f fd) (T : Tx P w K mg a) : FnOk P w K mg base CX0 1 f fd ["self", "text"] (spCutterInit a K) := by
  refine F.ok sc_Cutter_init (fun vs H Q E h => ?_) (fun cdv A outer s H vs Q E hr h => ?_)
  · obtain ⟨c, dx, ta, txt, rfl, _⟩ := h; rfl
  · obtain ⟨c, dx, ta, txt, rfl, hc, ht, k⟩ := h
    refine ⟨_, pss_cons (ps_fld (pv 0) (pv 1) rfl) (pss_cons (ps_fld (pv 0) pe_int rfl) (pss_cons (ps_fld (pv 0) (pe_lst pa_nil) rfl) (pss_cons (ps_fld (pv 0) (pe_lst pa_nil) rfl) (pss_cons (ps_fld (pv 0) pe_bl rfl) (pss_one (ps_fld (pv 0) pe_bl rfl)))))), ?_⟩
    refine ⟨_, rfl, _, rfl, c, _, dx, _, rfl, hc, T.c_Cutter, T.n_Cutter_text, (by show 0 < 1000; decide), ?_⟩
    refine ⟨_, rfl, c, _, dx, _, rfl, upd_same, T.c_Cutter, T.n_Cutter_place, (by show 1 < 1000; decide), ?_⟩
    rw [upd_upd]
    refine ⟨Nat.zero_le _, fun tl htl => ⟨_, rfl, c, _, dx, _, rfl, (upd_ne (ne_of_none upd_same htl)).trans upd_same, T.c_Cutter, T.n_Cutter_tokens, (by show 2 < 1000; decide), ?_⟩⟩
    have ctl : c ≠ tl := ne_of_none upd_same htl
    rw [upd_ne (Ne.symm ctl)] at htl
    refine ⟨Nat.zero_le _, fun ol hol => ⟨_, rfl, c, _, dx, _, rfl, (upd_ne (ne_of_none upd_same hol)).trans upd_same, T.c_Cutter, T.n_Cutter_opened, (by show 3 < 1000; decide), ?_⟩⟩
    have col : c ≠ ol := ne_of_none upd_same hol
    rw [upd_ne (Ne.symm col)] at hol
    have tlol : tl ≠ ol := ne_of_none upd_same hol
    rw [upd_ne (Ne.symm tlol), upd_ne (Ne.symm col)] at hol
    refine ⟨_, rfl, c, _, dx, _, rfl, upd_same, T.c_Cutter, T.n_Cutter_in_literal, (by show 4 < 1000; decide), ?_⟩
    refine ⟨_, rfl, c, _, dx, _, rfl, upd_same, T.c_Cutter, T.n_Cutter_ended, (by show 5 < 1000; decide), ?_⟩
    rw [upd_upd, upd_upd]
    have kk : ∀ b o, H b = some o -> b ≠ c -> upd (upd (upd (upd (upd H c (.ins a.Cutter dx (putF "place" (.int 0) (putF "text" (.ref ta) [])))) tl (.lst [])) c (.ins a.Cutter dx (putF "tokens" (.ref tl) (putF "place" (.int 0) (putF "text" (.ref ta) []))))) ol (.lst [])) c (.ins a.Cutter dx (cutF (.ref ta) (.int 0) (.ref tl) (.ref ol) (.bl false) (.bl false))) b = some o := fun b o e n => by
      rw [upd_ne n, upd_ne (ne_of_none e hol), upd_ne n, upd_ne (ne_of_none e htl), upd_ne n]; exact e
    refine k _ ⟨c, dx, ta, tl, ol⟩ rfl htl hol kk ⟨upd_same, ?_, ⟨[], ?_, .nil⟩, ?_, tlol⟩
    · have nM : ∀ o, H ta = some o -> (∀ C d fs, o ≠ .ins C d fs) -> ¬ CA.M ⟨c, dx, ta, tl, ol⟩ ta := fun o e ni z => by
        rcases z with z | z | z
        · have z : ta = c := z
          rw [z, hc] at e; cases e; exact ni _ _ _ rfl
        · exact ne_of_none e htl z
        · exact ne_of_none e hol z
      have ne : ∀ o, H ta = some o -> (∀ C d fs, o ≠ .ins C d fs) -> ta ≠ c := fun o e ni z => nM o e ni (.inl z)
      rcases ht with (q | ⟨o, q⟩) | q
      · exact .inl ⟨.inl (kk _ _ q (ne _ q (fun _ _ _ z => by cases z))), nM _ q (fun _ _ _ z => by cases z)⟩
      · exact .inl ⟨.inr ⟨o, kk _ _ q (ne _ q (fun _ _ _ z => by cases z))⟩, nM _ q (fun _ _ _ z => by cases z)⟩
      · exact .inr q
    · show upd _ c _ tl = _
      rw [upd_ne (Ne.symm ctl), upd_ne tlol, upd_ne (Ne.symm ctl), upd_same]; rfl
    · show upd _ c _ ol = _
      rw [upd_ne (Ne.symm col), upd_same]; rfl
theorem sc_cut : FnScope ["text", "cutter"] ["text"] (defScope s_cut) := ⟨rfl, rfl, rfl, by decide +kernel, rfl, by decide +kernel, by decide +kernel⟩
theorem ok_cut (F : Fun K "cut" "cut" s_cut f fd) (T : Tx P w K mg a) (Gm : MkAt P w K mg base CX0 1 a.Cutter "Cutter" ["self", "text"] (spCutterInit a K)) (Gl : MtAt P w K mg base (CXR P w) 6 a.Cutter "cut_literal" ["self"] (spCutStep true a K))
    (Go : MtAt P w K mg base (CXR P w) 6 a.Cutter "cut_outside" ["self"] (spCutStep false a K)) : FnOk P w K mg base (CXR P w) 7 f fd ["text"] (spCut a K) := by
  refine F.okR sc_cut (fun vs H Q E h => ?_) (fun cdv A outer s H vs Q E hr h => ?_)
  · obtain ⟨ta, txt, rfl, _⟩ := h; rfl
  · obtain ⟨ta, txt, rfl, ht, hlen, ko, kx⟩ := h
    have hr2 : Room 2 _ := hr.mono (by decide)
    refine ⟨_, pss_cons (ps_set (i := 1) sc_cut.nd rfl (Or.inl rfl) (pe_makeF Gm hr2 pass0 (pa_cons (pv 0) pa_nil)))
      (pss_cons (ps_while PassesOwn.leaving (pt_not (pt_val (pe_fld (pv 1) rfl))) (pss_one (ps_if (pt_val (pe_fld (pv 1) rfl)) (pss_one (ps_expr (pe_methF0 Gl T.c_Cutter hr pass_r (pv 1)))) (pss_one (ps_expr (pe_methF0 Go T.c_Cutter hr pass_r (pv 1)))))))
      (pss_one (ps_ret (pe_fld (pv 1) rfl)))), ?_⟩
    refine ⟨_, rfl, ?_⟩
    intro c dx hc hdx hne
    have s1 : Same H (upd (upd H dx (.own c)) c (.ins a.Cutter dx [])) := fun b o e => by rw [upd_ne (ne_of_none e hc), upd_ne (ne_of_none e hdx)]; exact e
    refine ⟨c, dx, ta, txt, rfl, upd_same, s1.seq ht, fun H1 z ez htl hol k1 C1 => ⟨rfl, ?_⟩⟩
    have sub : ∀ b o, H b = some o -> ¬ z.M b := fun b o e y => by
      have e1 := s1 b o e
      rcases y with y | y | y
      · rw [y, ez] at e; rw [hc] at e; cases e
      · rw [y, htl] at e1; cases e1
      · rw [y, hol] at e1; cases e1
    have sH : Same H H1 := fun b o e => k1 b o (s1 b o e) (ne_of_none e hc)
    have toS : ∀ H2, Keep z.M H1 H2 -> Same H H2 := fun H2 k b o e => k b o (sH b o e) (sub b o e)
    refine ⟨fun m σ H2 => σ = [some (.ref ta), some (.ref z.c)] /\ Keep z.M H1 H2 /\ ((∃ n lit O i Tk, CutAt a K H2 z txt i Tk O lit false /\ CM.Here txt n lit O i Tk /\ Tk.length <= i /\ O.length <= i /\ m = txt.length + 1 - i) \/
      (∃ O i Tk, CutAt a K H2 z txt i Tk O false true /\ Vastoa.tokens txt = .ok Tk /\ Tk.length <= txt.length + 1 /\ m = 0)), ⟨_, ?_, Keep.refl _ _, .inl ⟨_, false, [], 0, [], C1, CM.start txt, Nat.le_refl _, Nat.le_refl _, rfl⟩⟩, ?_⟩
    · rw [ez]; rfl
    rintro m σ H2 ⟨rfl, k2, ⟨n, lit, O, i, Tk, C2, hH, hT, hO, rfl⟩ | ⟨O, i, Tk, C2, hk, hl, rfl⟩⟩
    · refine ⟨_, rfl, z.c, _, z.dx, _, _, rfl, C2.ins, T.c_Cutter, T.n_Cutter_ended, cutF_ended _ _ _ _ _ _, _, rfl, iteT ⟨_, fun σ' H' q => q, ?_⟩⟩
      refine ⟨_, rfl, z.c, _, z.dx, _, _, rfl, C2.ins, T.c_Cutter, T.n_Cutter_in_literal, cutF_in_literal _ _ _ _ _ _, _, rfl, ?_⟩
      have hle := hH.le
      have res : CutRes a K z txt H2 i (fun H' => ∃ m', m' < txt.length + 1 - i /\ ([some (V.ref ta), some (.ref z.c)] = [some (V.ref ta), some (.ref z.c)] /\ Keep z.M H1 H' /\ ((∃ n lit O i Tk, CutAt a K H' z txt i Tk O lit false /\ CM.Here txt n lit O i Tk /\ Tk.length <= i /\ O.length <= i /\ m' = txt.length + 1 - i) \/
        (∃ O i Tk, CutAt a K H' z txt i Tk O false true /\ Vastoa.tokens txt = .ok Tk /\ Tk.length <= txt.length + 1 /\ m' = 0)))) E := by
        refine ⟨fun H' T' O' i' k3 e3 l3 b3 C3 => ⟨0, by omega, rfl, k2.trans k3, .inr ⟨O', i', T', C3, e3, by omega, rfl⟩⟩, fun H' n' lit' O' i' T' k3 h3 b3 l3 o3 C3 => ⟨txt.length + 1 - i', ?_, rfl, k2.trans k3, .inl ⟨n', lit', O', i', T', C3, h3, l3, o3, rfl⟩⟩, fun p hp => ?_⟩
        · have := h3.le; omega
        · exact fun C dx' H' k3 x => kx p hp C dx' H' (toS H' (k2.trans k3)) x
      cases lit with
      | true => exact iteT ⟨_, rfl, z.c, z.dx, _, rfl, C2.ins, cutF_no_cut_literal _ _ _ _ _ _, z, txt, n, i, Tk, O, rfl, C2, hH, hT, hO, hlen, res⟩
      | false => exact iteF ⟨_, rfl, z.c, z.dx, _, rfl, C2.ins, cutF_no_cut_outside _ _ _ _ _ _, z, txt, n, i, Tk, O, rfl, C2, hH, hT, hO, hlen, res⟩
    · refine ⟨_, rfl, z.c, _, z.dx, _, _, rfl, C2.ins, T.c_Cutter, T.n_Cutter_ended, cutF_ended _ _ _ _ _ _, _, rfl, iteF ?_⟩
      refine ⟨_, rfl, z.c, _, z.dx, _, _, rfl, C2.ins, T.c_Cutter, T.n_Cutter_tokens, cutF_tokens _ _ _ _ _ _, ?_⟩
      obtain ⟨as, t1, t2⟩ := C2.tl
      exact ko H2 z.tl as Tk (toS H2 k2) hk hl t1 (paired_imp (fun x y q => q.free) t2)
end
end RT
end
section
set_option Elab.async false
set_option linter.all false
set_option maxRecDepth 100000
set_option maxHeartbeats 2000000
namespace RT
open PySem PySem.Spec PyProof.Rows L2
open Vastoa (Mark Marks)
abbrev SKind := Vastoa.Kind
abbrev SAct := RM.Act
open RM (Part Sym choice kd held)
def partS : Part -> Str
  | .EXPR => "EXPR" | .FORM => "FORM" | .FUNCTION => "FUNCTION" | .FIELDS => "FIELDS" | .PARAMS => "PARAMS" | .GIVEN => "GIVEN" | .MPARAMS => "MORE-PARAMS" | .BINDS => "BINDS" | .BOUND => "BOUND" | .OR => "OR" | .MOR => "MORE-OR"
  | .AND => "AND" | .MAND => "MORE-AND" | .NOT => "NOT" | .CMP => "CMP" | .MCMP => "MORE-CMP" | .UPD => "UPD" | .MUPD => "MORE-UPD" | .JOIN => "JOIN" | .MJOIN => "MORE-JOIN" | .SUM => "SUM" | .MSUM => "MORE-SUM" | .PROD => "PROD"
  | .MPROD => "MORE-PROD" | .NEG => "NEG" | .APP => "APP" | .ARGS => "ARGUMENTS" | .ARG => "ARGUMENT" | .SEL => "SEL" | .DOTS => "DOTS" | .MDOTS => "MORE-DOTS" | .DFLT => "DEFAULT" | .ATOM => "ATOM" | .PIECES => "PIECES"
  | .LIST => "LIST" | .MLIST => "MORE-LIST"
def kindS : SKind -> Str
  | .piece => "piece" | .num => "num" | .yes => "yes" | .no => "no" | .none => "none" | .name => "name" | .text => "text" | .list => "list" | .record => "record" | .recur => "recur" | .get => "get" | .app => "app" | .neg => "neg"
  | .not => "not" | .has => "has" | .fn => "fn" | .fields => "fields" | .openFields => "fields.." | .param => "param" | .letIn => "let" | .cond => "if" | .must => "must"
  | .op .or => "or" | .op .and => "and" | .op .eq => "==" | .op .ne => "!=" | .op .lt => "<" | .op .le => "<=" | .op .upd => "//" | .op .join => "++" | .op .add => "+" | .op .sub => "-" | .op .mul => "*"
def actS : SAct -> Str
  | .begin => "begin" | .take => "take" | .label => "label" | .fresh => "fresh" | .enter => "enter" | .leave => "leave"
  | .fin k => kindS k
def symS : Sym -> Str
  | .p x => partS x
  | .t k => kstr k
  | .a x => strOf (64 :: (actS x).cps.toList)
def allParts : List Part := [.EXPR, .FORM, .FUNCTION, .FIELDS, .PARAMS, .GIVEN, .MPARAMS, .BINDS, .BOUND, .OR, .MOR, .AND, .MAND, .NOT, .CMP, .MCMP, .UPD, .MUPD, .JOIN, .MJOIN, .SUM, .MSUM, .PROD, .MPROD, .NEG, .APP, .ARGS, .ARG, .SEL, .DOTS, .MDOTS, .DFLT, .ATOM, .PIECES, .LIST, .MLIST]
def allKinds : List SKind := [.piece, .num, .yes, .no, .none, .name, .text, .list, .record, .recur, .get, .app, .neg, .not, .has, .fn, .fields, .openFields, .param, .letIn, .cond, .must, .op .or, .op .and, .op .eq, .op .ne, .op .lt, .op .le, .op .upd, .op .join, .op .add, .op .sub, .op .mul]
def allToks : List STok := [.name [], .num [], .piece [], .quote, .unquote, .hole, .unhole, .fin] ++ Vastoa.reserved.map .word ++ ([[123], [125]] ++ Vastoa.signs2 ++ Vastoa.signs1).map .sign
theorem mem_parts (x : Part) : x ∈ allParts := by cases x <;> decide
theorem mem_kinds (k : SKind) : k ∈ allKinds := by
  cases k with
  | op o => cases o <;> decide
  | _ => decide
theorem mem_toks {t : STok} (h : CM.okTok t = true) : kd t ∈ allToks := by
  unfold allToks
  cases t with
  | word x =>
    have h : Vastoa.reserved.contains x = true := h
    exact List.mem_append_left _ (List.mem_append_right _ (List.mem_map.mpr ⟨x, List.contains_iff_mem.mp h, rfl⟩))
  | sign x =>
    have h : ([[123], [125]] ++ Vastoa.signs2 ++ Vastoa.signs1).contains x = true := h
    exact List.mem_append_right _ (List.mem_map.mpr ⟨x, List.contains_iff_mem.mp h, rfl⟩)
  | _ => exact List.mem_append_left _ (List.mem_append_left _ (by simp [kd]))
theorem kstr_kd (t : STok) : kstr (kd t) = kstr t := by cases t <;> rfl
theorem kstr_inj : ∀ x ∈ allToks, ∀ y ∈ allToks, kstr x = kstr y -> x = y := by decide +kernel
def okSym : Sym -> Bool
  | .t k => allToks.contains k
  | _ => true
theorem choice_ok : ∀ x ∈ allParts, ∀ k ∈ allToks, (choice x k).all okSym = true := by decide +kernel
def fitsS (x k : Str) : Bool := if x = "ARGUMENT" then atomsS.contains k else decide (x = k)
def chooseS (k : Str) : List Str -> List Str -> List Str
  | [], last => last
  | r :: rs, _ => match Txt.words r with
    | [] => chooseS k rs []
    | x :: l => if fitsS x k then x :: l else chooseS k rs (x :: l)
def rowsOf (x : Part) : List Str := (gramS.lookup (partS x)).getD []
end RT
namespace RT
open PySem PySem.Spec PyProof.Rows L2
open Vastoa (Mark Marks)
open RM (Part Sym choice kd held)
theorem choose_all : ∀ x ∈ allParts, ∀ k ∈ allToks, chooseS (kstr k) (rowsOf x) [] = (choice x k).map symS := by decide +kernel
def gramK : List Str := gramS.map (·.1)
theorem part_key : ∀ x ∈ allParts, partS x ∈ gramK := by decide +kernel
theorem tok_key : ∀ k ∈ allToks, kstr k ∉ gramK := by decide +kernel
def allActs : List SAct := [.begin, .take, .label, .fresh, .enter, .leave] ++ allKinds.map .fin
theorem mem_acts (x : SAct) : x ∈ allActs := by
  cases x with
  | fin k => exact List.mem_append_right _ (List.mem_map.mpr ⟨k, mem_kinds k, rfl⟩)
  | _ => exact List.mem_append_left _ (by simp)
theorem act_key : ∀ x ∈ allActs, symS (.a x) ∉ gramK := by decide +kernel
theorem act_at : ∀ x ∈ allActs, Txt.startswith (symS (.a x)) "@" = true /\ cutS (symS (.a x)) (some 1) none = actS x /\ (symS (.a x)).length <= 1000 := by decide +kernel
theorem tok_at : ∀ k ∈ allToks, Txt.startswith (kstr k) "@" = false := by decide +kernel
theorem act_inj : ∀ x ∈ allActs, ∀ y ∈ allActs, actS x = actS y -> x = y := by decide +kernel
theorem rows_short : ∀ x ∈ allParts, ∀ r ∈ rowsOf x, r.length <= 1000 := by decide +kernel
theorem rows_are : ∀ x ∈ allParts, (partS x, rowsOf x) ∈ gramS := by decide +kernel
theorem gram_at (g : Str -> Addr) (y : Str) : ∀ l : List (Str × List Str), valV (l.map fun r => ((Sum.inr r.1 : Key), V.ref (g r.1))) (Sum.inr y) = if y ∈ l.map (·.1) then some (V.ref (g y)) else none
  | [] => rfl
  | r :: l => by
    by_cases h : r.1 = y
    · subst h
      rw [List.map_cons, valV_pos rfl, if_pos (by simp)]
    · rw [List.map_cons, valV_neg (fun z => h (Sum.inr.inj z)), gram_at g y l]
      by_cases h2 : y ∈ l.map (·.1)
      · rw [if_pos h2, if_pos (by rw [List.map_cons]; exact List.mem_cons_of_mem _ h2)]
      · rw [if_neg h2, if_neg (by rw [List.map_cons, List.mem_cons]; exact fun z => z.elim (fun z => h z.symm) h2)]
end RT
end
section
set_option Elab.async false
set_option linter.all false
set_option maxRecDepth 100000
set_option maxHeartbeats 2000000
namespace RT
open PySem PySem.Spec PyProof.Rows L2
open Vastoa (Mark Marks)
open RM (Part Sym choice kd held)
def spFits : Sp := fun vs H Q E => ∃ x k : Str, vs = [.str x, .str k] /\ Q (.bl (fitsS x k)) H
def spChoose (a : Ad) : Sp := fun vs H Q E => ∃ (x : Part) (k : STok), vs = [.str (partS x), .str (kstr k)] /\ k ∈ allToks /\ ∀ H' p, Same H H' -> H p = none -> H' p = some (.lst (((choice x k).map symS).map V.str)) -> Q (.ref p) H'
theorem flat_strs : ∀ l : List Str, (l.map V.str).all flatV = true
  | [] => rfl
  | _ :: r => by rw [List.map_cons, List.all_cons, flat_strs r]; rfl
theorem in_strs (k : Str) : ∀ l : List Str, inV (.str k) (l.map V.str) = l.contains k
  | [] => rfl
  | x :: r => by
    have ih := in_strs k r
    unfold inV at ih ⊢
    rw [List.map_cons, List.any_cons, ih, List.contains_cons]
    congr 1
    show (x == k) = (k == x)
    by_cases h : x = k
    · subst h; rfl
    · rw [beq_eq_false_iff_ne.mpr h, beq_eq_false_iff_ne.mpr (fun z => h z.symm)]
theorem choose_stop {k : Str} {r : Str} {x : Str} {l : List Str} (hw : Txt.words r = x :: l) (hf : fitsS x k = true) (rs last : List Str) : chooseS k (r :: rs) last = x :: l := by
  unfold chooseS; rw [hw]; dsimp only; rw [if_pos hf]
theorem choose_on {k : Str} {r : Str} (h : ∀ x l, Txt.words r = x :: l -> fitsS x k = false) (rs last : List Str) : chooseS k (r :: rs) last = chooseS k rs (Txt.words r) := by
  conv => lhs; unfold chooseS
  cases hw : Txt.words r with
  | nil => rfl
  | cons x l =>
    dsimp only
    rw [if_neg (by rw [h x l hw]; decide)]
section
variable {P : Program} {w : World} {K : PySem.W.Frag} {mg : Str -> Option Value} {base : Heap} {f : Addr} {fd : FuncData} {a : Ad}
theorem sc_fits : FnScope ["first", "kind"] ["first", "kind"] (defScope s_fits) := ⟨rfl, rfl, rfl, by decide +kernel, rfl, by decide +kernel, by decide +kernel⟩
theorem ok_fits (F : Fun K "fits" "fits" s_fits f fd) (T : Tx P w K mg a) : FnOk P w K mg base CX0 1 f fd ["first", "kind"] spFits := by
  refine F.ok sc_fits (fun vs H Q E h => ?_) (fun cdv A outer s H vs Q E hr h => ?_)
  · obtain ⟨x, k, rfl, _⟩ := h; rfl
  · obtain ⟨x, y, rfl, k⟩ := h
    refine ⟨_, pss_cons (ps_if (pt_cmpR op_eq (pv 0) pe_str (nomark _)) (pss_one (ps_ret (pe_cmpR op_in_seq (pv 1) (pe_gl T.g_ATOM_BEGINNINGS) (by with_unfolding_all rfl)))) pss_nil) (pss_one (ps_ret (pe_cmpR op_eq (pv 0) (pv 1) (nomark _)))), ?_⟩
    refine ⟨_, rfl, rfl, _, rfl, ite2 (fun e => ?_) fun e => ?_⟩
    · have e : x = "ARGUMENT" := by have := of_decide_eq_true e; injection this
      refine ⟨_, rfl, a.ATOM_BEGINNINGS, _, rfl, .inr (T.t_ATOM_BEGINNINGS.sq _), rfl, flat_strs _, ?_⟩
      have : fitsS x y = inV (.str y) (atomsS.map V.str) := by unfold fitsS; rw [if_pos e, in_strs]
      rw [this] at k; exact k
    · have e : ¬ x = "ARGUMENT" := fun z => e (decide_eq_true (by rw [z]))
      refine ⟨_, rfl, _, rfl, rfl, ?_⟩
      have : fitsS x y = decide (V.str x = V.str y) := by
        unfold fitsS; rw [if_neg e]
        exact decide_eq_decide.mpr ⟨fun z => by rw [z], fun z => by injection z⟩
      rw [this] at k; exact k
theorem sc_choose : FnScope ["part", "kind", "symbols", "choice"] ["part", "kind"] (defScope s_choose) := ⟨rfl, rfl, rfl, by decide +kernel, rfl, by decide +kernel, by decide +kernel⟩
theorem ok_choose (F : Fun K "choose" "choose" s_choose f fd) (T : Tx P w K mg a) (G : FnAt P w K mg base CX0 1 "fits" ["first", "kind"] spFits) : FnOk P w K mg base CX0 2 f fd ["part", "kind"] (spChoose a) := by
  refine F.ok sc_choose (fun vs H Q E h => ?_) (fun cdv A outer s H vs Q E hr h => ?_)
  · obtain ⟨x, k, rfl, _⟩ := h; rfl
  · obtain ⟨x, y, rfl, hy, k⟩ := h
    refine ⟨_, pss_cons (ps_set (i := 2) sc_choose.nd rfl (Or.inl rfl) (pe_lst pa_nil))
      (pss_cons (ps_for PassesOwn.never rfl (pi_tup (pe_kget (pe_gl T.g_GRAMMAR) (pv 0) (fun _ _ => rfl))) (pg_name (i := 3) sc_choose.nd rfl (Or.inl rfl))
        (pss_cons (ps_set (i := 2) sc_choose.nd rfl (Or.inl rfl) (pe_words (pv 3)))
        (pss_one (ps_if (pw_and (pt_truth (pv 2) (by intro _; rfl)) (pw_and1 (pt_val (pe_callF G hr pass0 (pa_cons (pe_ix ix_list (pv 2) pe_int (fun _ _ => rfl)) (pa_cons (pv 1) pa_nil)))))).pt (pss_one (ps_ret (pv 2))) pss_nil))))
      (pss_one (ps_ret (pv 2)))), ?_⟩
    refine ⟨Nat.zero_le _, fun q hq => ?_⟩
    have hmem := part_key x (mem_parts x)
    have hrow := T.t_gram _ (rows_are x (mem_parts x))
    have hval : valV (gramS.map fun r => ((Sum.inr r.1 : Key), V.ref (a.gram r.1))) (Sum.inr (partS x)) = some (.ref (a.gram (partS x))) := by rw [gram_at]; exact if_pos hmem
    have hc := choose_all x (mem_parts x) y hy
    refine ⟨_, rfl, a.GRAMMAR, _, Sum.inr (partS x), _, rfl, T.d_GRAMMAR, rfl, hval, a.gram (partS x), rfl, ⟨_, hrow.sq _⟩,
      for_tup (K := K) (a := a.gram (partS x)) (xs := (rowsOf x).map V.str) (fun i σ H' => ∃ (v : Option V) (l : Addr) (ys : List Str), σ = [some (.str (partS x)), some (.str (kstr y)), some (.ref l), v] /\ Same H H' /\ H l = none /\ H' l = some (.lst (ys.map V.str)) /\ chooseS (kstr y) (rowsOf x) [] = chooseS (kstr y) ((rowsOf x).drop i) ys)
      ⟨none, q, [], rfl, same_new hq, hq, upd_same, rfl⟩ (fun i σ H' _ _ => hrow.sq _) ?_ ?_⟩
    · rintro i z σ H1 hi ⟨v, l, ys, rfl, s1, hl, hl1, ech⟩
      obtain ⟨r, hr', rfl⟩ : ∃ r, (rowsOf x)[i]? = some r /\ V.str r = z := by
        rw [List.getElem?_map] at hi
        exact Option.map_eq_some_iff.mp hi
      have hsz : r.length <= 1000 := rows_short x (mem_parts x) r (List.mem_of_getElem? hr')
      have hd : (rowsOf x).drop i = r :: (rowsOf x).drop (i + 1) := by
        obtain ⟨h1, h2⟩ := List.getElem?_eq_some_iff.mp hr'
        rw [<- h2]; exact List.drop_eq_getElem_cons h1
      rw [hd] at ech
      refine ⟨_, rfl, ⟨_, rfl⟩, r, rfl, rfl, ?_, fun p hp => ?_⟩
      · have : (1000 : Nat) + 2 <= sizeLine := by decide
        omega
      have hpH : H p = none := s1.free hp
      have s2 := s1.trans (same_new (o := .lst ((Txt.words r).map V.str)) hp)
      refine ⟨_, rfl, _, .inl ⟨_, SqL.of upd_same, rfl⟩, ?_⟩
      cases hw : Txt.words r with
      | nil =>
        rw [hw] at s2
        refine iteF (iteF ?_)
        refine ⟨_, p, [], rfl, s2, hpH, upd_same, ?_⟩
        rw [ech, choose_on (fun x' l' z => by rw [hw] at z; cases z), hw]
      | cons x0 l0 =>
        rw [hw] at s2
        refine iteT ⟨_, rfl, p, _, _, _, rfl, rfl, SqL.of upd_same, atI_nat (j := 0) rfl, _, rfl, x0, _, rfl, _, rfl, ?_⟩
        cases hf : fitsS x0 (kstr y) with
        | true =>
          refine iteT ⟨_, rfl, ?_⟩
          rw [choose_stop hw hf] at ech
          rw [ech] at hc
          refine k _ p s2 hpH ?_
          rw [upd_same, <- hc]
        | false =>
          refine iteF ⟨_, p, x0 :: l0, rfl, s2, hpH, upd_same, ?_⟩
          rw [ech, choose_on (fun x' l' z => by rw [hw] at z; cases z; exact hf), hw]
    · rintro σ H1 ⟨v, l, ys, rfl, s1, hl, hl1, ech⟩
      refine ⟨_, rfl, ?_⟩
      rw [List.length_map, List.drop_length] at ech
      refine k H1 l s1 hl ?_
      rw [hl1, <- hc, ech]
      rfl
end
end RT
end
section
set_option Elab.async false
set_option linter.all false
set_option maxRecDepth 100000
set_option maxHeartbeats 2000000
namespace RT
open PySem PySem.Spec PyProof.Rows L2
open Vastoa (Mark Marks)
open RM (Part Sym choice kd held)
def LabsAt (M : Addr -> Prop) (H : Hp) (lb : List Addr) (ls : List (List Nat)) : Prop := Paired (fun p (x : List Nat) => H p = some (.lst (nt x)) /\ ¬ M p) lb ls
mutual
def TreeAt (a : Ad) (M : Addr -> Prop) (H : Hp) : Vastoa.Tree -> Addr -> Prop
  | .node k ls l, t => ∃ dx la ka lb ks, (H t = some (.ins a.Node dx (nodF (.str (kindS k)) (.ref la) (.ref ka) (.int ((Vastoa.depths l + 1 : Nat) : Int)))) /\ ¬ M t) /\ (H la = some (.lst (lb.map V.ref)) /\ ¬ M la) /\ LabsAt M H lb ls /\ (H ka = some (.lst (ks.map V.ref)) /\ ¬ M ka) /\ TreesAt a M H l ks
def TreesAt (a : Ad) (M : Addr -> Prop) (H : Hp) : List Vastoa.Tree -> List Addr -> Prop
  | [], ks => ks = []
  | t :: l, ks => ∃ k r, ks = k :: r /\ TreeAt a M H t k /\ TreesAt a M H l r
end
def Pass (M : Addr -> Prop) (H : Hp) (M' : Addr -> Prop) (H' : Hp) : Prop := ∀ b o, H b = some o -> ¬ M b -> H' b = some o /\ ¬ M' b
theorem LabsAt.pass {M M' : Addr -> Prop} {H H' : Hp} (p : Pass M H M' H') {lb : List Addr} {ls : List (List Nat)} (h : LabsAt M H lb ls) : LabsAt M' H' lb ls := paired_imp (fun x y q => p _ _ q.1 q.2) h
mutual
theorem TreeAt.pass {a : Ad} {M M' : Addr -> Prop} {H H' : Hp} (p : Pass M H M' H') : ∀ (T : Vastoa.Tree) (t : Addr), TreeAt a M H T t -> TreeAt a M' H' T t
  | .node k ls l, t, h => by
    unfold TreeAt at h ⊢
    obtain ⟨dx, la, ka, lb, ks, h1, h2, h3, h4, h5⟩ := h
    exact ⟨dx, la, ka, lb, ks, p _ _ h1.1 h1.2, p _ _ h2.1 h2.2, h3.pass p, p _ _ h4.1 h4.2, TreesAt.pass p l ks h5⟩
theorem TreesAt.pass {a : Ad} {M M' : Addr -> Prop} {H H' : Hp} (p : Pass M H M' H') : ∀ (l : List Vastoa.Tree) (ks : List Addr), TreesAt a M H l ks -> TreesAt a M' H' l ks
  | [], ks, h => by unfold TreesAt at h ⊢; exact h
  | T :: l, ks, h => by
    unfold TreesAt at h ⊢
    obtain ⟨k, r, e, h1, h2⟩ := h
    exact ⟨k, r, e, TreeAt.pass p T k h1, TreesAt.pass p l r h2⟩
end
theorem TokAt.pass {a : Ad} {M M' : Addr -> Prop} {H H' : Hp} (p : Pass M H M' H') {t : Addr} {m : Mark} (h : TokAt a M H t m) : TokAt a M' H' t m := by
  obtain ⟨dx, ha, h1, h2, h3, h4⟩ := h
  exact ⟨dx, ha, (p _ _ h1 h3).1, (p _ _ h2 h4).1, (p _ _ h1 h3).2, (p _ _ h2 h4).2⟩
theorem trees_paired {a : Ad} {M : Addr -> Prop} {H : Hp} : ∀ {l : List Vastoa.Tree} {ks : List Addr}, TreesAt a M H l ks ↔ Paired (fun k T => TreeAt a M H T k) ks l
  | [], ks => by
    unfold TreesAt
    constructor
    · rintro rfl; exact .nil
    · intro h; cases h; rfl
  | T :: l, ks => by
    unfold TreesAt
    constructor
    · rintro ⟨k, r, rfl, h1, h2⟩
      exact .cons h1 (trees_paired.mp h2)
    · intro h
      cases h with
      | cons h1 h2 => exact ⟨_, _, rfl, h1, trees_paired.mpr h2⟩
theorem TreeAt.depth {a : Ad} {M : Addr -> Prop} {H : Hp} {T : Vastoa.Tree} {t : Addr} (h : TreeAt a M H T t) : ∃ dx x y z, H t = some (.ins a.Node dx (nodF x y z (.int ((Vastoa.depth T : Nat) : Int)))) := by
  cases T with
  | node k ls l =>
    unfold TreeAt at h
    obtain ⟨dx, la, ka, lb, ks, h1, _⟩ := h
    refine ⟨dx, .str (kindS k), .ref la, .ref ka, ?_⟩
    unfold Vastoa.depth
    exact h1.1
theorem depths_max : ∀ (l : List Vastoa.Tree) (m : Int), (l.map (fun T => ((Vastoa.depth T : Nat) : Int)) = [] -> m = 0) -> (l.map (fun T => ((Vastoa.depth T : Nat) : Int)) ≠ [] -> m ∈ l.map (fun T => ((Vastoa.depth T : Nat) : Int)) /\ ∀ y, y ∈ l.map (fun T => ((Vastoa.depth T : Nat) : Int)) -> y <= m) -> m = ((Vastoa.depths l : Nat) : Int) := by
  have up : ∀ (l : List Vastoa.Tree) (y : Int), y ∈ l.map (fun T => ((Vastoa.depth T : Nat) : Int)) -> y <= ((Vastoa.depths l : Nat) : Int) := by
    intro l
    induction l with
    | nil => intro y h; cases h
    | cons T l ih =>
      intro y h
      unfold Vastoa.depths
      rcases List.mem_cons.mp h with rfl | h
      · show ((Vastoa.depth T : Nat) : Int) <= _
        omega
      · have := ih y h; omega
  have isin : ∀ (l : List Vastoa.Tree), l ≠ [] -> ((Vastoa.depths l : Nat) : Int) ∈ l.map (fun T => ((Vastoa.depth T : Nat) : Int)) := by
    intro l
    induction l with
    | nil => intro h; exact absurd rfl h
    | cons T l ih =>
      intro _
      unfold Vastoa.depths
      by_cases hl : l = []
      · subst hl
        unfold Vastoa.depths
        simp
      · have := ih hl
        rcases Nat.le_total (Vastoa.depth T) (Vastoa.depths l) with h | h
        · rw [Nat.max_eq_right h]; exact List.mem_cons_of_mem _ this
        · rw [Nat.max_eq_left h]; exact List.mem_cons_self
  intro l m h0 h1
  cases l with
  | nil =>
    rw [h0 rfl]
    unfold Vastoa.depths
    rfl
  | cons T l =>
    obtain ⟨g1, g2⟩ := h1 (by simp)
    have a1 := up _ m g1
    have a2 := g2 _ (isin (T :: l) (by simp))
    omega
def NodesD (a : Ad) (H : Hp) (ks : List Addr) (ds : List Int) : Prop := Paired (fun k d => ∃ dx x y z, H k = some (.ins a.Node dx (nodF x y z (.int d)))) ks ds
theorem nodes_of {a : Ad} {M : Addr -> Prop} {H : Hp} : ∀ {l : List Vastoa.Tree} {ks : List Addr}, TreesAt a M H l ks -> NodesD a H ks (l.map fun T => ((Vastoa.depth T : Nat) : Int))
  | [], ks, h => by unfold TreesAt at h; subst h; exact .nil
  | T :: l, ks, h => by
    unfold TreesAt at h
    obtain ⟨k, r, rfl, h1, h2⟩ := h
    exact .cons h1.depth (nodes_of h2)
def spNode (a : Ad) : Sp := fun vs H Q E => ∃ (t dx ka : Addr) (k l : V) (ks : List Addr) (ds : List Int), vs = [.ref t, k, l, .ref ka] /\ H t = some (.ins a.Node dx []) /\ H ka = some (.lst (ks.map V.ref)) /\ NodesD a H ks ds /\ ks.length <= 1000000 /\
  ∀ H' m, (∀ b o, H b = some o -> b ≠ t -> H' b = some o) -> (ds = [] -> m = 0) -> (ds ≠ [] -> m ∈ ds /\ ∀ y, y ∈ ds -> y <= m) -> H' t = some (.ins a.Node dx (nodF k l (.ref ka) (.int (1 + m)))) -> Q .non H'
def spBegun (a : Ad) : Sp := fun vs H Q E => ∃ (g dx : Addr) (n : Int), vs = [.ref g, .int n] /\ H g = some (.ins a.Begun dx []) /\
  ∀ H' la na, (∀ b o, H b = some o -> b ≠ g -> H' b = some o) -> H la = none -> H na = none -> la ≠ na -> H' g = some (.ins a.Begun dx (begF (.int n) (.ref la) (.ref na))) -> H' la = some (.lst []) -> H' na = some (.dT []) -> Q .non H'
section
variable {P : Program} {w : World} {K : PySem.W.Frag} {mg : Str -> Option Value} {base : Heap} {f : Addr} {fd : FuncData} {a : Ad}
theorem sc_Node_init : FnScope ["self", "kind", "labels", "kids", "kid"] ["self", "kind", "labels", "kids"] (defScope s_Node_init) := ⟨rfl, rfl, rfl, by decide +kernel, rfl, by decide +kernel, by decide +kernel⟩
theorem ok_Node_init (F : Fun K "__init__" "Node.__init__" s_Node_init f fd) (T : Tx P w K mg a) : FnOk P w K mg base CX0 1 f fd ["self", "kind", "labels", "kids"] (spNode a) := by
  refine F.ok sc_Node_init (fun vs H Q E h => ?_) (fun cdv A outer s H vs Q E hr h => ?_)
  · obtain ⟨t, dx, ka, k, l, ks, ds, rfl, _⟩ := h; rfl
  · obtain ⟨t, dx, ka, kk, l, ks, ds, rfl, ht, hka, hks, hlen, k⟩ := h
    refine ⟨_, pss_cons (ps_fld (pv 0) (pv 1) rfl) (pss_cons (ps_fld (pv 0) (pv 2) rfl) (pss_cons (ps_fld (pv 0) (pv 3) rfl)
      (pss_one (ps_fld (pv 0) (pe_op op_add pe_int (pe_maxD rfl (by rfl) T.b_max (pe_lc (own := [("kid", 4)]) (te := tFld K (tVar 4) "depth") rfl sc_Node_init.nd (pi_list (pv 3)) (blkOk_by rfl) (fun _ _ _ _ _ => pg_name (i := 4) sc_Node_init.nd rfl (Or.inl rfl)) (fun _ _ _ _ _ => pts_nil) (fun _ _ _ _ _ => pe_fld (pv 4) rfl)))) rfl)))), ?_⟩
    have tka : ka ≠ t := ne_of hka ht (by intro q; cases q)
    refine ⟨_, rfl, _, rfl, t, _, dx, _, rfl, ht, T.c_Node, T.n_Node_kind, (by show 0 < 1000; decide), ?_⟩
    refine ⟨_, rfl, _, rfl, t, _, dx, _, rfl, upd_same, T.c_Node, T.n_Node_labels, (by show 1 < 1000; decide), ?_⟩
    refine ⟨_, rfl, _, rfl, t, _, dx, _, rfl, upd_same, T.c_Node, T.n_Node_kids, (by show 2 < 1000; decide), ?_⟩
    rw [upd_upd, upd_upd]
    generalize hH1 : upd H t (.ins a.Node dx (putF "kids" (.ref ka) (putF "labels" l (putF "kind" kk [])))) = H1
    have k1 : ∀ b o, H b = some o -> b ≠ t -> H1 b = some o := fun b o e n => by rw [<- hH1, upd_ne n]; exact e
    have ht1 : H1 t = some (.ins a.Node dx (putF "kids" (.ref ka) (putF "labels" l (putF "kind" kk [])))) := by rw [<- hH1]; exact upd_same
    have hka1 := k1 _ _ hka tka
    refine ⟨_, rfl, ka, rfl, ⟨_, SqL.of hka1⟩, fun D hD => lc_list (K := K) (a := ka) (xs := ks.map V.ref) (fun i H' => H' = upd H1 D (.lst ((ds.take i).map V.int))) rfl (fun i H' _ e => by subst e; exact SqL.of (same_new hD _ _ hka1)) ?_ ?_⟩
    · rintro i x _ hx rfl
      obtain ⟨kd, hkd, rfl⟩ : ∃ y, ks[i]? = some y /\ V.ref y = x := by
        rw [List.getElem?_map] at hx
        exact Option.map_eq_some_iff.mp hx
      have hil : i < ks.length := (List.getElem?_eq_some_iff.mp hkd).1
      have hdl : i < ds.length := by rw [<- Paired.length hks]; exact hil
      obtain ⟨kd', h1, dx', x1, y1, z1, h2⟩ := paired_get hks (List.getElem?_eq_getElem hdl)
      rw [hkd] at h1
      cases h1
      have nt' : kd ≠ t := fun e => by
        subst e
        rw [ht] at h2
        have := Option.some.inj h2
        injection this with _ _ e3
        cases e3
      refine ⟨rfl, ⟨_, rfl, kd, _, dx', _, _, rfl, same_new hD _ _ (k1 _ _ h2 nt'), T.c_Node, T.n_Node_depth, nodF_depth _ _ _ _, _, upd_same, ?_, ?_⟩⟩
      · rw [List.length_map, List.length_take]
        exact Nat.lt_of_le_of_lt (Nat.min_le_left _ _) (small1000' (by omega))
      · rw [upd_upd]
        congr 2
        rw [List.take_succ, List.getElem?_eq_getElem hdl, List.map_append]
        rfl
    · rintro _ rfl
      rw [List.length_map, Paired.length hks, List.take_length]
      have s2 := same_new (o := .lst (ds.map V.int)) hD
      refine ⟨D, ds, rfl, SqL.of upd_same, fun m h1 h2 => ⟨_, _, rfl, rfl, _, rfl, t, _, dx, _, rfl, s2 _ _ ht1, T.c_Node, T.n_Node_depth, (by show 3 < 1000; decide), ?_⟩⟩
      refine k _ m (fun b o e n => ?_) h1 h2 ?_
      · rw [upd_ne n]; exact s2 _ _ (k1 b o e n)
      · exact upd_same
theorem sc_Begun_init : FnScope ["self", "first"] ["self", "first"] (defScope s_Begun_init) := ⟨rfl, rfl, rfl, by decide +kernel, rfl, by decide +kernel, by decide +kernel⟩
theorem ok_Begun_init (F : Fun K "__init__" "Begun.__init__" s_Begun_init f fd) (T : Tx P w K mg a) : FnOk P w K mg base CX0 1 f fd ["self", "first"] (spBegun a) := by
  refine F.ok sc_Begun_init (fun vs H Q E h => ?_) (fun cdv A outer s H vs Q E hr h => ?_)
  · obtain ⟨g, dx, n, rfl, _⟩ := h; rfl
  · obtain ⟨g, dx, n, rfl, hg, k⟩ := h
    refine ⟨_, pss_cons (ps_fld (pv 0) (pv 1) rfl) (pss_cons (ps_fld (pv 0) (pe_lst pa_nil) rfl) (pss_one (ps_fld (pv 0) pe_dnewT rfl))), ?_⟩
    refine ⟨_, rfl, _, rfl, g, _, dx, _, rfl, hg, T.c_Begun, T.n_Begun_first, (by show 0 < 1000; decide), ?_⟩
    refine ⟨Nat.zero_le _, fun la hla => ?_⟩
    have gla : g ≠ la := ne_of_none upd_same hla
    rw [upd_ne (Ne.symm gla)] at hla
    refine ⟨_, rfl, g, _, dx, _, rfl, (upd_ne gla).trans upd_same, T.c_Begun, T.n_Begun_labels, (by show 1 < 1000; decide), fun na hna => ?_⟩
    have gna : g ≠ na := ne_of_none upd_same hna
    rw [upd_ne (Ne.symm gna)] at hna
    have lna : la ≠ na := ne_of_none upd_same hna
    rw [upd_ne (Ne.symm lna), upd_ne (Ne.symm gna)] at hna
    refine ⟨_, rfl, g, _, dx, _, rfl, (upd_ne gna).trans upd_same, T.c_Begun, T.n_Begun_names, (by show 2 < 1000; decide), ?_⟩
    refine k _ la na (fun b o e n => ?_) hla hna lna upd_same ?_ ?_
    · rw [upd_ne n, upd_ne (ne_of_none e hna), upd_ne n, upd_ne (ne_of_none e hla), upd_ne n]; exact e
    · rw [upd_ne (Ne.symm gla), upd_ne lna, upd_ne (Ne.symm gla), upd_same]
    · rw [upd_ne (Ne.symm gna), upd_same]
end
end RT
end
section
set_option Elab.async false
set_option linter.all false
set_option maxRecDepth 100000
set_option maxHeartbeats 2000000
namespace RT
open PySem PySem.Spec PyProof.Rows L2
open Vastoa (Mark Marks)
open RM (Part Sym choice kd held MS Bg)
def keyOf (x : List Nat) : List Key := x.map fun n => Sum.inl ((n : Nat) : Int)
theorem keyOf_kV (x : List Nat) : (keyOf x).map kV = nt x := by simp [keyOf, nt, kV]
theorem keyOf_inj {x y : List Nat} (h : keyOf x = keyOf y) : x = y := by
  unfold keyOf at h
  exact (List.map_inj_right (fun p q z => by have := Sum.inl.inj z; omega)).mp h
def namesD (ns : List (List Nat)) : List (List Key × V) := ns.map fun x => (keyOf x, V.bl true)
theorem names_val (x : List Nat) : ∀ ns : List (List Nat), valV (namesD ns) (keyOf x) = if x ∈ ns then some (.bl true) else none
  | [] => rfl
  | y :: ns => by
    have ih := names_val x ns
    unfold namesD at ih ⊢
    by_cases h : y = x
    · subst h
      rw [List.map_cons, valV_pos rfl, if_pos List.mem_cons_self]
    · rw [List.map_cons, valV_neg (fun z => h (keyOf_inj z)), ih]
      by_cases h2 : x ∈ ns
      · rw [if_pos h2, if_pos (List.mem_cons_of_mem _ h2)]
      · rw [if_neg h2, if_neg (by rw [List.mem_cons]; exact fun z => z.elim (fun z => h z.symm) h2)]
theorem names_put {x : List Nat} {ns : List (List Nat)} (h : x ∉ ns) : putK (namesD ns) (keyOf x) (.bl true) = namesD (ns ++ [x]) := by
  have e : valV (namesD ns) (keyOf x) = none := by rw [names_val, if_neg h]
  refine (putK_new _ e).trans ?_
  simp [namesD]
def spMeet (a : Ad) (K : PySem.W.Frag) : Sp := fun vs H Q E => ∃ (na t : Addr) (ns : List (List Nat)) (m : Mark), vs = [.ref na, .ref t] /\ H na = some (.dT (namesD ns)) /\ TokAt a M0 H t m /\ ns.length <= 1000000 /\
  (held m.tok ∈ ns -> XW K a.Refusal H 5 m.place E) /\ (held m.tok ∉ ns -> ∀ H', (∀ b o, H b = some o -> b ≠ na -> H' b = some o) -> H' na = some (.dT (namesD (ns ++ [held m.tok]))) -> Q .non H')
section
variable {P : Program} {w : World} {K : PySem.W.Frag} {mg : Str -> Option Value} {base : Heap} {f : Addr} {fd : FuncData} {a : Ad}
theorem sc_meet_name : FnScope ["names", "token", "name"] ["names", "token"] (defScope s_meet_name) := ⟨rfl, rfl, rfl, by decide +kernel, rfl, by decide +kernel, by decide +kernel⟩
theorem ok_meet_name (F : Fun K "meet_name" "meet_name" s_meet_name f fd) (T : Tx P w K mg a) (Gx : XMkAt P w K mg base 2 a.NameTwice "NameTwice" ["self", "place"] (spX a.NameTwice 5 true)) : FnOk P w K mg base (CXR P w) 4 f fd ["names", "token"] (spMeet a K) := by
  refine F.okR sc_meet_name (fun vs H Q E h => ?_) (fun cdv A outer s H vs Q E hr h => ?_)
  · obtain ⟨na, t, ns, m, rfl, _⟩ := h; rfl
  · obtain ⟨na, t, ns, m, rfl, hna, ⟨dx, ha, ht, hha, _, _⟩, hlen, kx, ko⟩ := h
    have hu := hu_of hr
    refine ⟨_, pss_cons (ps_set (i := 2) sc_meet_name.nd rfl (Or.inl rfl) (pe_callTy call_tuple_of (by rfl) T.b_tuple PyProof.Rows.boot_tuple (pa_cons (pe_fld (pv 1) rfl) pa_nil)))
      (pss_cons (ps_if (pt_cmp (pc_din hu (pv 2) (pv 0))) (pss_one (ps_raiseF Gx hr (pa_cons (pe_fld (pv 1) rfl) pa_nil))) pss_nil)
      (pss_one (ps_dput hu (pv 0) (pv 2) pe_bl rfl))), ?_⟩
    refine ⟨_, rfl, t, _, dx, _, _, rfl, ht, T.c_Token, T.n_Token_held, tokF_held _ _ _, ha, _, rfl, .inl ⟨SqL.of hha, fun p hp => ?_⟩⟩
    have s1 := same_new (o := .tup (nt (held m.tok))) hp
    have hp1 : (upd H p (.tup (nt (held m.tok)))) p = some (.tup ((keyOf (held m.tok)).map kV)) := by rw [keyOf_kV]; exact upd_same
    refine ⟨_, rfl, _, rfl, na, _, rfl, DGet.t (s1 _ _ hna) hp1, _, rfl, ?_⟩
    rw [names_val]
    by_cases hm : held m.tok ∈ ns
    · rw [if_pos hm]
      refine iteT ⟨_, rfl, t, _, dx, _, _, rfl, s1 _ _ ht, T.c_Token, T.n_Token_place, tokF_place _ _ _, ?_⟩
      exact raise_1 T.x_NameTwice T.u_NameTwice T.n_NameTwice_number T.n_NameTwice_place (fun C dx' H' s2 x => kx hm C dx' H' (s1.trans s2) x)
    · rw [if_neg hm]
      refine iteF ⟨_, rfl, _, rfl, na, _, rfl, DPut.t (s1 _ _ hna) hp1 (by unfold namesD; rw [List.length_map]; exact small1000' hlen), ?_⟩
      rw [names_put hm]
      refine ko hm _ (fun b o e n => ?_) upd_same
      rw [upd_ne n]; exact s1 _ _ e
end
end RT
end
section
set_option Elab.async false
set_option linter.all false
set_option maxRecDepth 100000
set_option maxHeartbeats 2000000
namespace RT
open PySem PySem.Spec PyProof.Rows L2
open Vastoa (Mark Marks)
open RM (Part Sym choice kd held MS Bg)
structure BA where
  g : Addr
  la : Addr
  na : Addr
structure RA where
  r : Addr
  dx : Addr
  ts : Addr
  wl : Addr
  bl : Addr
  gl : Addr
  gs : List BA
def owns (gs : List BA) : List Addr := gs.flatMap fun x => [x.la, x.na]
def RA.own (z : RA) : List Addr := z.wl :: z.bl :: z.gl :: owns z.gs
def RA.M (z : RA) (b : Addr) : Prop := b = z.r \/ b ∈ z.own
theorem RA.mr (z : RA) : z.M z.r := .inl rfl
theorem RA.mw (z : RA) : z.M z.wl := .inr List.mem_cons_self
theorem RA.mb (z : RA) : z.M z.bl := .inr (List.mem_cons_of_mem _ List.mem_cons_self)
theorem RA.mg (z : RA) : z.M z.gl := .inr (List.mem_cons_of_mem _ (List.mem_cons_of_mem _ List.mem_cons_self))
theorem mem_owns {gs : List BA} {x : BA} (h : x ∈ gs) : x.la ∈ owns gs /\ x.na ∈ owns gs := ⟨List.mem_flatMap.mpr ⟨x, h, by simp⟩, List.mem_flatMap.mpr ⟨x, h, by simp⟩⟩
theorem RA.mo (z : RA) {b : Addr} (h : b ∈ owns z.gs) : z.M b := .inr (List.mem_cons_of_mem _ (List.mem_cons_of_mem _ (List.mem_cons_of_mem _ h)))
theorem paired_mem {A B : Type} {R S : A -> B -> Prop} : ∀ {as : List A} {bs : List B}, (∀ x y, x ∈ as -> R x y -> S x y) -> Paired R as bs -> Paired S as bs
  | _, _, _, .nil => .nil
  | _, _, i, .cons q t => .cons (i _ _ List.mem_cons_self q) (paired_mem (fun x y h => i x y (List.mem_cons_of_mem _ h)) t)
def BgAt (a : Ad) (M : Addr -> Prop) (H : Hp) (x : BA) (g : Bg) : Prop := ∃ dx lb, (H x.g = some (.ins a.Begun dx (begF (.int (g.first : Int)) (.ref x.la) (.ref x.na))) /\ ¬ M x.g) /\ H x.la = some (.lst (lb.map V.ref)) /\ LabsAt M H lb g.labels /\ H x.na = some (.dT (namesD g.names))
structure RdAt (a : Ad) (H : Hp) (z : RA) (toks : Marks) (n : Nat) (S : MS) : Prop where
  ins : H z.r = some (.ins a.Reader z.dx (reaF (.ref z.ts) (.int (n : Int)) (.int (S.lv : Int)) (.ref z.wl) (.ref z.bl) (.ref z.gl)))
  tks : ∃ as, (H z.ts = some (.lst (as.map V.ref)) /\ ¬ z.M z.ts) /\ Paired (TokAt a z.M H) as toks
  wl : H z.wl = some (.lst (S.W.reverse.map fun s => V.str (symS s)))
  bl : ∃ bs, H z.bl = some (.lst (bs.map V.ref)) /\ TreesAt a z.M H S.B bs
  gl : H z.gl = some (.lst ((z.gs.map (·.g)).reverse.map V.ref))
  gs : Paired (BgAt a z.M H) z.gs S.G
  nd : z.own.Nodup
  ts : S.ts = toks.drop n
  pv : atI toks ((n : Int) - 1) = some S.pv
section
variable {a : Ad} {H H' : Hp} {z : RA} {toks : Marks} {n : Nat} {S : MS}
theorem BgAt.pass {M M' : Addr -> Prop} {x : BA} {g : Bg} (p : Pass M H M' H') (h : BgAt a M H x g) (h1 : H' x.la = H x.la) (h2 : H' x.na = H x.na) : BgAt a M' H' x g := by
  obtain ⟨dx, lb, q1, q2, q3, q4⟩ := h
  exact ⟨dx, lb, p _ _ q1.1 q1.2, by rw [h1]; exact q2, q3.pass p, by rw [h2]; exact q4⟩
theorem RdAt.own_some (h : RdAt a H z toks n S) {b : Addr} (hb : b ∈ z.own) : ∃ o, H b = some o /\ ∀ C d fs, o ≠ .ins C d fs := by
  rcases List.mem_cons.mp hb with rfl | hb
  · exact ⟨_, h.wl, fun _ _ _ q => by cases q⟩
  rcases List.mem_cons.mp hb with rfl | hb
  · obtain ⟨bs, h1, _⟩ := h.bl
    exact ⟨_, h1, fun _ _ _ q => by cases q⟩
  rcases List.mem_cons.mp hb with rfl | hb
  · exact ⟨_, h.gl, fun _ _ _ q => by cases q⟩
  obtain ⟨x, hx, hb⟩ := List.mem_flatMap.mp hb
  obtain ⟨i, hi⟩ := List.getElem?_of_mem hx
  have hl := (List.getElem?_eq_some_iff.mp hi).1
  have hlG : i < S.G.length := by rw [<- Paired.length h.gs]; exact hl
  obtain ⟨x', e1, dx, lb, _, q2, _, q4⟩ := paired_get h.gs (List.getElem?_eq_getElem hlG)
  rw [hi] at e1
  cases e1
  rcases List.mem_cons.mp hb with rfl | hb
  · exact ⟨_, q2, fun _ _ _ q => by cases q⟩
  · have : b = x.na := by simpa using hb
    subst this
    exact ⟨_, q4, fun _ _ _ q => by cases q⟩
theorem RdAt.fresh (h : RdAt a H z toks n S) {p : Addr} (hp : H p = none) : ¬ z.M p := by
  rintro (rfl | hb)
  · rw [h.ins] at hp; cases hp
  · obtain ⟨o, e, _⟩ := h.own_some hb
    rw [e] at hp; cases hp
theorem RdAt.nr (h : RdAt a H z toks n S) {b : Addr} (hb : b ∈ z.own) : b ≠ z.r := fun e => by
  obtain ⟨o, e1, e2⟩ := h.own_some hb
  rw [e, h.ins] at e1
  cases e1
  exact e2 _ _ _ rfl
theorem pass_same {M : Addr -> Prop} (s : Same H H') : Pass M H M H' := fun b o e n => ⟨s b o e, n⟩
theorem pass_keep {M : Addr -> Prop} (k : Keep M H H') : Pass M H M H' := fun b o e n => ⟨k b o e n, n⟩
theorem RdAt.same (h : RdAt a H z toks n S) (s : Same H H') : RdAt a H' z toks n S := by
  obtain ⟨as, t1, t2⟩ := h.tks
  obtain ⟨bs, b1, b2⟩ := h.bl
  have p : Pass z.M H z.M H' := pass_same s
  refine ⟨s _ _ h.ins, ⟨as, ⟨s _ _ t1.1, t1.2⟩, paired_imp (fun x y q => q.pass p) t2⟩, s _ _ h.wl, ⟨bs, s _ _ b1, TreesAt.pass p _ _ b2⟩, s _ _ h.gl, paired_imp (fun x y q => ?_) h.gs, h.nd, h.ts, h.pv⟩
  obtain ⟨dx, lb, q1, q2, q3, q4⟩ := q
  exact ⟨dx, lb, p _ _ q1.1 q1.2, s _ _ q2, q3.pass p, s _ _ q4⟩
theorem RdAt.put (h : RdAt a H z toks n S) (n' lv' : Nat) (ts' : Marks) (pv' : Mark) (ht : ts' = toks.drop n') (hp : atI toks ((n' : Int) - 1) = some pv') :
    RdAt a (upd H z.r (.ins a.Reader z.dx (reaF (.ref z.ts) (.int (n' : Int)) (.int (lv' : Int)) (.ref z.wl) (.ref z.bl) (.ref z.gl)))) z toks n' { S with ts := ts', pv := pv', lv := lv' } := by
  obtain ⟨as, t1, t2⟩ := h.tks
  obtain ⟨bs, b1, b2⟩ := h.bl
  have k : Keep z.M H (upd H z.r (.ins a.Reader z.dx (reaF (.ref z.ts) (.int (n' : Int)) (.int (lv' : Int)) (.ref z.wl) (.ref z.bl) (.ref z.gl)))) := Keep.at_ z.mr
  have p := pass_keep k
  have o : ∀ b, b ∈ z.own -> (upd H z.r (.ins a.Reader z.dx (reaF (.ref z.ts) (.int (n' : Int)) (.int (lv' : Int)) (.ref z.wl) (.ref z.bl) (.ref z.gl)))) b = H b := fun b hb => upd_ne (h.nr hb)
  refine ⟨upd_same, ⟨as, p _ _ t1.1 t1.2, paired_imp (fun x y q => q.pass p) t2⟩, ?_, ⟨bs, ?_, TreesAt.pass p _ _ b2⟩, ?_, ?_, h.nd, ht, hp⟩
  · rw [o _ (by simp [RA.own])]; exact h.wl
  · rw [o _ (by simp [RA.own])]; exact b1
  · rw [o _ (by simp [RA.own])]; exact h.gl
  · refine paired_mem (fun x y hx q => q.pass p (o _ ?_) (o _ ?_)) h.gs
    · simp only [RA.own, List.mem_cons]; exact .inr (.inr (.inr (mem_owns hx).1))
    · simp only [RA.own, List.mem_cons]; exact .inr (.inr (.inr (mem_owns hx).2))
end
end RT
end
section
set_option Elab.async false
set_option linter.all false
set_option maxRecDepth 100000
set_option maxHeartbeats 2000000
namespace RT
open PySem PySem.Spec PyProof.Rows L2
open Vastoa (Mark Marks)
open RM (Part Sym choice kd held MS Bg)
def wV (W : List Sym) : List V := W.reverse.map fun s => V.str (symS s)
section
variable {a : Ad} {H H' : Hp} {z : RA} {toks : Marks} {n : Nat} {S : MS}
theorem RdAt.nwl (h : RdAt a H z toks n S) : z.wl ≠ z.bl /\ z.wl ≠ z.gl /\ z.wl ∉ owns z.gs := by
  have := List.nodup_cons.mp h.nd
  simp only [List.mem_cons, not_or] at this
  exact ⟨this.1.1, this.1.2.1, this.1.2.2⟩
theorem RdAt.nbl (h : RdAt a H z toks n S) : z.bl ≠ z.gl /\ z.bl ∉ owns z.gs := by
  have := List.nodup_cons.mp (List.nodup_cons.mp h.nd).2
  simp only [List.mem_cons, not_or] at this
  exact this.1
theorem RdAt.ngl (h : RdAt a H z toks n S) : z.gl ∉ owns z.gs /\ (owns z.gs).Nodup := List.nodup_cons.mp (List.nodup_cons.mp (List.nodup_cons.mp h.nd).2).2
theorem RdAt.ow (z : RA) : z.wl ∈ z.own := by simp [RA.own]
theorem RdAt.ob (z : RA) : z.bl ∈ z.own := by simp [RA.own]
theorem RdAt.og (z : RA) : z.gl ∈ z.own := by simp [RA.own]
theorem RdAt.oo (z : RA) {b : Addr} (h : b ∈ owns z.gs) : b ∈ z.own := by simp only [RA.own, List.mem_cons]; exact .inr (.inr (.inr h))
theorem RdAt.putW (h : RdAt a H z toks n S) (W' : List Sym) : RdAt a (upd H z.wl (.lst (wV W'))) z toks n { S with W := W' } := by
  obtain ⟨as, t1, t2⟩ := h.tks
  obtain ⟨bs, b1, b2⟩ := h.bl
  obtain ⟨n1, n2, n3⟩ := h.nwl
  have k : Keep z.M H (upd H z.wl (.lst (wV W'))) := Keep.at_ z.mw
  have p := pass_keep k
  refine ⟨by rw [upd_ne (Ne.symm (h.nr (RdAt.ow z)))]; exact h.ins, ⟨as, p _ _ t1.1 t1.2, paired_imp (fun x y q => q.pass p) t2⟩, upd_same, ⟨bs, by rw [upd_ne (Ne.symm n1)]; exact b1, TreesAt.pass p _ _ b2⟩, by rw [upd_ne (Ne.symm n2)]; exact h.gl, ?_, h.nd, h.ts, h.pv⟩
  refine paired_mem (fun x y hx q => q.pass p (upd_ne ?_) (upd_ne ?_)) h.gs
  · exact fun e => n3 (e ▸ (mem_owns hx).1)
  · exact fun e => n3 (e ▸ (mem_owns hx).2)
theorem RdAt.putB (h : RdAt a H z toks n S) {bs : List Addr} {B' : List Vastoa.Tree} (hb : TreesAt a z.M H B' bs) : RdAt a (upd H z.bl (.lst (bs.map V.ref))) z toks n { S with B := B' } := by
  obtain ⟨as, t1, t2⟩ := h.tks
  obtain ⟨n1, n2, n3⟩ := h.nwl
  obtain ⟨m1, m2⟩ := h.nbl
  have k : Keep z.M H (upd H z.bl (.lst (bs.map V.ref))) := Keep.at_ z.mb
  have p := pass_keep k
  refine ⟨by rw [upd_ne (Ne.symm (h.nr (RdAt.ob z)))]; exact h.ins, ⟨as, p _ _ t1.1 t1.2, paired_imp (fun x y q => q.pass p) t2⟩, by rw [upd_ne n1]; exact h.wl, ⟨bs, upd_same, TreesAt.pass p _ _ hb⟩, by rw [upd_ne (Ne.symm m1)]; exact h.gl, ?_, h.nd, h.ts, h.pv⟩
  refine paired_mem (fun x y hx q => q.pass p (upd_ne ?_) (upd_ne ?_)) h.gs
  · exact fun e => m2 (e ▸ (mem_owns hx).1)
  · exact fun e => m2 (e ▸ (mem_owns hx).2)
end
def RdRes (a : Ad) (K : PySem.W.Frag) (z : RA) (toks : Marks) (H : Hp) (r : Option (Except Vastoa.Fault MS)) (Q : Hp -> Prop) (E : XK) : Prop := match r with
  | some (.ok S') => ∀ H' z' n', z'.r = z.r -> Pass z.M H z'.M H' -> RdAt a H' z' toks n' S' -> Q H'
  | some (.error f) => XWM z.M K a.Refusal H (f.kind : Int) (f.place : Int) E
  | none => False
def spReadTok (a : Ad) (K : PySem.W.Frag) : Sp := fun vs H Q E => ∃ (z : RA) (toks : Marks) (n : Nat) (S : MS) (k : STok) (m : Mark) (r : Marks), vs = [.ref z.r, .str (kstr k)] /\ RdAt a H z toks n S /\ k ∈ allToks /\ CM.okTok m.tok = true /\ S.ts = m :: r /\
  RdRes a K z toks H (if kd m.tok = k then some (.ok ⟨r, m, S.lv, S.W, S.B, S.G⟩) else some (.error ⟨3, m.place⟩)) (Q .non) E
def spEnter (a : Ad) (K : PySem.W.Frag) : Sp := fun vs H Q E => ∃ (z : RA) (toks : Marks) (n : Nat) (S : MS), vs = [.ref z.r] /\ RdAt a H z toks n S /\ RdRes a K z toks H (RM.stepA .enter S.ts S.pv S.lv S.W S.B S.G) (Q .non) E
theorem tok_at_n {toks : Marks} {n : Nat} {m : Mark} {r : Marks} (h : m :: r = toks.drop n) : toks[n]? = some m /\ toks.drop (n + 1) = r := by
  constructor
  · have : (toks.drop n)[0]? = some m := by rw [<- h]; rfl
    rw [List.getElem?_drop] at this
    exact this
  · rw [<- List.drop_drop, <- h]; rfl
theorem pass_trans {M M1 M2 : Addr -> Prop} {H H1 H2 : Hp} (p : Pass M H M1 H1) (q : Pass M1 H1 M2 H2) : Pass M H M2 H2 := fun b o e n => q b o (p b o e n).1 (p b o e n).2
section
variable {P : Program} {w : World} {K : PySem.W.Frag} {mg : Str -> Option Value} {base : Heap} {f : Addr} {fd : FuncData} {a : Ad}
theorem sc_read_token : FnScope ["self", "kind", "token"] ["self", "kind"] (defScope s_Reader_read_token) := ⟨rfl, rfl, rfl, by decide +kernel, rfl, by decide +kernel, by decide +kernel⟩
theorem ok_read_token (F : Fun K "read_token" "Reader.read_token" s_Reader_read_token f fd) (T : Tx P w K mg a) (Gx : XMkAt P w K mg base 2 a.WrongSyntax "WrongSyntax" ["self", "place"] (spX a.WrongSyntax 3 true)) : FnOk P w K mg base (CXR P w) 4 f fd ["self", "kind"] (spReadTok a K) := by
  refine F.okR sc_read_token (fun vs H Q E h => ?_) (fun cdv A outer s H vs Q E hr h => ?_)
  · obtain ⟨z, toks, n, S, k, m, r, rfl, _⟩ := h; rfl
  · obtain ⟨z, toks, n, S, k, m, r, rfl, hR, hk, hm, hts, res⟩ := h
    refine ⟨_, pss_cons (ps_set (i := 2) sc_read_token.nd rfl (Or.inl rfl) (pe_ix ix_list (pe_fld (pv 0) rfl) (pe_fld (pv 0) rfl) (fun _ _ => rfl)))
      (pss_cons (ps_if (pt_cmpR op_ne (pe_fld (pv 2) rfl) (pv 1) (nomark _)) (pss_one (ps_raiseF Gx hr (pa_cons (pe_fld (pv 2) rfl) pa_nil))) pss_nil)
      (pss_one (ps_fldaug (pv 0) pe_int in_add))), ?_⟩
    obtain ⟨as, t1, t2⟩ := hR.tks
    obtain ⟨e1, e2⟩ := tok_at_n (hts.symm.trans hR.ts)
    obtain ⟨t, ht, dx, ha, ht1, ht2, _, _⟩ := paired_get t2 e1
    refine ⟨_, rfl, z.r, _, z.dx, _, _, rfl, hR.ins, T.c_Reader, T.n_Reader_tokens, reaF_tokens _ _ _ _ _ _, _, rfl, z.r, _, z.dx, _, _, rfl, hR.ins, T.c_Reader, T.n_Reader_at, reaF_at _ _ _ _ _ _, z.ts, _, _, _, rfl, rfl, SqL.of t1.1, atI_nat (v := V.ref t) (by rw [List.getElem?_map, ht]; rfl), ?_⟩
    refine ⟨_, rfl, t, _, dx, _, _, rfl, ht1, T.c_Token, T.n_Token_kind, tokF_kind _ _ _, _, rfl, rfl, _, rfl, ?_⟩
    have iff : (V.str (kstr m.tok) = V.str (kstr k)) ↔ kd m.tok = k := by
      constructor
      · intro e
        injection e with e
        rw [<- kstr_kd] at e
        exact kstr_inj _ (mem_toks hm) _ hk e
      · intro e; rw [<- e, kstr_kd]
    by_cases hkd : kd m.tok = k
    · rw [decide_eq_true (iff.mpr hkd)]
      rw [if_pos hkd] at res
      refine iteF ⟨_, rfl, z.r, _, z.dx, _, _, rfl, hR.ins, T.c_Reader, T.n_Reader_at, reaF_at _ _ _ _ _ _, _, _, rfl, rfl, z.dx, _, hR.ins, (by show 6 < 1000; decide), ?_⟩
      exact res _ z (n + 1) rfl (pass_keep (Keep.at_ z.mr)) (hR.put (n + 1) S.lv r m e2.symm (by rw [show (((n + 1 : Nat) : Int) - 1) = (n : Int) by omega]; exact atI_nat e1))
    · rw [decide_eq_false (fun y => hkd (iff.mp y))]
      rw [if_neg hkd] at res
      refine iteT ⟨_, rfl, t, _, dx, _, _, rfl, ht1, T.c_Token, T.n_Token_place, tokF_place _ _ _, ?_⟩
      exact raise_1 T.x_WrongSyntax T.u_WrongSyntax T.n_WrongSyntax_number T.n_WrongSyntax_place (XWM.on res (Keep.refl _ _))
theorem sc_enter_level : FnScope ["self"] ["self"] (defScope s_Reader_enter_level) := ⟨rfl, rfl, rfl, by decide +kernel, rfl, by decide +kernel, by decide +kernel⟩
theorem ok_enter_level (F : Fun K "enter_level" "Reader.enter_level" s_Reader_enter_level f fd) (T : Tx P w K mg a) (Gx : XMkAt P w K mg base 2 a.LevelTooDeep "LevelTooDeep" ["self", "place"] (spX a.LevelTooDeep 4 true)) : FnOk P w K mg base (CXR P w) 4 f fd ["self"] (spEnter a K) := by
  refine F.okR sc_enter_level (fun vs H Q E h => ?_) (fun cdv A outer s H vs Q E hr h => ?_)
  · obtain ⟨z, toks, n, S, rfl, _⟩ := h; rfl
  · obtain ⟨z, toks, n, S, rfl, hR, res⟩ := h
    refine ⟨_, pss_cons (ps_if (pt_cmpR op_eq (pe_fld (pv 0) rfl) (pe_gl T.g_MOST_LEVELS) (nomark _)) (pss_one (ps_raiseF Gx hr (pa_cons (pe_fld (pe_ix ix_list (pe_fld (pv 0) rfl) (pe_fld (pv 0) rfl) (fun _ _ => rfl)) rfl) pa_nil))) pss_nil)
      (pss_one (ps_fldaug (pv 0) pe_int in_add)), ?_⟩
    refine ⟨_, rfl, z.r, _, z.dx, _, _, rfl, hR.ins, T.c_Reader, T.n_Reader_level, reaF_level _ _ _ _ _ _, rfl, _, rfl, ?_⟩
    cases hS : S.ts with
    | nil => rw [hS] at res; exact res.elim
    | cons m r =>
      rw [hS] at res
      obtain ⟨as, t1, t2⟩ := hR.tks
      obtain ⟨e1, e2⟩ := tok_at_n (hS.symm.trans hR.ts)
      obtain ⟨t, ht, dx, ha, ht1, ht2, _, _⟩ := paired_get t2 e1
      by_cases hl : S.lv = 40
      · rw [decide_eq_true (by rw [hl]; rfl)]
        have res : RdRes a K z toks H (if S.lv = 40 then some (.error ⟨4, m.place⟩) else _) (Q .non) E := res
        rw [if_pos hl] at res
        refine iteT ⟨_, rfl, z.r, _, z.dx, _, _, rfl, hR.ins, T.c_Reader, T.n_Reader_tokens, reaF_tokens _ _ _ _ _ _, _, rfl, z.r, _, z.dx, _, _, rfl, hR.ins, T.c_Reader, T.n_Reader_at, reaF_at _ _ _ _ _ _, z.ts, _, _, _, rfl, rfl, SqL.of t1.1, atI_nat (v := V.ref t) (by rw [List.getElem?_map, ht]; rfl), t, _, dx, _, _, rfl, ht1, T.c_Token, T.n_Token_place, tokF_place _ _ _, ?_⟩
        exact raise_1 T.x_LevelTooDeep T.u_LevelTooDeep T.n_LevelTooDeep_number T.n_LevelTooDeep_place (XWM.on res (Keep.refl _ _))
      · rw [decide_eq_false (fun y => hl (by injection y with y; omega))]
        have res : RdRes a K z toks H (if S.lv = 40 then some (.error ⟨4, m.place⟩) else some (.ok ⟨m :: r, S.pv, S.lv + 1, S.W, S.B, S.G⟩)) (Q .non) E := res
        rw [if_neg hl] at res
        refine iteF ⟨_, rfl, z.r, _, z.dx, _, _, rfl, hR.ins, T.c_Reader, T.n_Reader_level, reaF_level _ _ _ _ _ _, _, _, rfl, rfl, z.dx, _, hR.ins, (by show 6 < 1000; decide), ?_⟩
        exact res _ z n rfl (pass_keep (Keep.at_ z.mr)) (hR.put n (S.lv + 1) (m :: r) S.pv (by rw [<- hS]; exact hR.ts) hR.pv)
end
end RT
end
section
set_option Elab.async false
set_option linter.all false
set_option maxRecDepth 100000
set_option maxHeartbeats 2000000
namespace RT
open PySem PySem.Spec PyProof.Rows L2
open Vastoa (Mark Marks)
open RM (Part Sym choice kd held MS Bg)
theorem paired_take {A B : Type} {R : A -> B -> Prop} : ∀ {as : List A} {bs : List B} (n : Nat), Paired R as bs -> Paired R (as.take n) (bs.take n)
  | _, _, 0, _ => .nil
  | _, _, _ + 1, .nil => .nil
  | _, _, n + 1, .cons q t => .cons q (paired_take n t)
theorem paired_drop {A B : Type} {R : A -> B -> Prop} : ∀ {as : List A} {bs : List B} (n : Nat), Paired R as bs -> Paired R (as.drop n) (bs.drop n)
  | _, _, 0, r => r
  | _, _, _ + 1, .nil => .nil
  | _, _, n + 1, .cons q t => paired_drop n t
theorem RdAt.pop {a : Ad} {H : Hp} {z : RA} {toks : Marks} {n : Nat} {S : MS} {x : BA} {gs : List BA} {g : Bg} {G : List Bg} (h : RdAt a H z toks n S) (ez : z.gs = x :: gs) (eG : S.G = g :: G) :
    RdAt a (upd H z.gl (.lst ((gs.map (·.g)).reverse.map V.ref))) { z with gs := gs } toks n { S with G := G } /\ Pass z.M H ({ z with gs := gs } : RA).M (upd H z.gl (.lst ((gs.map (·.g)).reverse.map V.ref))) /\
    BgAt a ({ z with gs := gs } : RA).M (upd H z.gl (.lst ((gs.map (·.g)).reverse.map V.ref))) x g /\ ¬ ({ z with gs := gs } : RA).M x.la := by
  obtain ⟨as, t1, t2⟩ := h.tks
  obtain ⟨bs, b1, b2⟩ := h.bl
  obtain ⟨n1, n2, n3⟩ := h.nwl
  obtain ⟨m1, m2⟩ := h.nbl
  obtain ⟨g1, g2⟩ := h.ngl
  have hgs := h.gs
  rw [ez] at n3 m2 g1 g2 hgs
  rw [eG] at hgs
  have eo : owns (x :: gs) = x.la :: x.na :: owns gs := rfl
  rw [eo] at n3 m2 g1 g2
  simp only [List.mem_cons, not_or] at n3 m2 g1
  obtain ⟨nd1, nd2⟩ := List.nodup_cons.mp g2
  obtain ⟨nd3, nd4⟩ := List.nodup_cons.mp nd2
  simp only [List.mem_cons, not_or] at nd1
  have sub : ∀ b, ({ z with gs := gs } : RA).M b -> z.M b := fun b hb => by
    rcases hb with hb | hb
    · exact .inl hb
    · refine .inr ?_
      simp only [RA.own, List.mem_cons] at hb ⊢
      rcases hb with hb | hb | hb | hb
      · exact .inl hb
      · exact .inr (.inl hb)
      · exact .inr (.inr (.inl hb))
      · refine .inr (.inr (.inr ?_))
        rw [ez, eo]
        exact List.mem_cons_of_mem _ (List.mem_cons_of_mem _ hb)
  have k : Keep z.M H (upd H z.gl (.lst ((gs.map (·.g)).reverse.map V.ref))) := Keep.at_ z.mg
  have p : Pass z.M H ({ z with gs := gs } : RA).M (upd H z.gl (.lst ((gs.map (·.g)).reverse.map V.ref))) := fun b o e nb => ⟨k b o e nb, fun y => nb (sub b y)⟩
  have hr : ∀ b, b ∈ z.own -> b ≠ z.r := fun b hb => h.nr hb
  cases hgs with
  | cons q0 qs =>
    refine ⟨⟨?_, ⟨as, p _ _ t1.1 t1.2, paired_imp (fun x y q => q.pass p) t2⟩, ?_, ⟨bs, ?_, TreesAt.pass p _ _ b2⟩, upd_same, ?_, ?_, h.ts, h.pv⟩, p, ?_, ?_⟩
    · show upd H z.gl _ z.r = _
      rw [upd_ne (Ne.symm (h.nr (RdAt.og z)))]; exact h.ins
    · show upd H z.gl _ z.wl = _
      rw [upd_ne n2]; exact h.wl
    · show upd H z.gl _ z.bl = _
      rw [upd_ne m1]; exact b1
    · refine paired_mem (fun x y hx q => q.pass p (upd_ne ?_) (upd_ne ?_)) qs
      · exact fun e => g1.2.2 (e ▸ (mem_owns hx).1)
      · exact fun e => g1.2.2 (e ▸ (mem_owns hx).2)
    · show (z.wl :: z.bl :: z.gl :: owns gs).Nodup
      exact List.nodup_cons.mpr ⟨by simp only [List.mem_cons, not_or]; exact ⟨n1, n2, n3.2.2⟩, List.nodup_cons.mpr ⟨by simp only [List.mem_cons, not_or]; exact ⟨m1, m2.2.2⟩, List.nodup_cons.mpr ⟨g1.2.2, nd4⟩⟩⟩
    · exact q0.pass p (upd_ne (Ne.symm g1.1)) (upd_ne (Ne.symm g1.2.1))
    · rintro (y | y)
      · obtain ⟨dx, lb, _, q2, _, _⟩ := q0
        rw [y, h.ins] at q2
        cases q2
      · simp only [RA.own, List.mem_cons] at y
        rcases y with y | y | y | y
        · exact n3.1 y.symm
        · exact m2.1 y.symm
        · exact g1.1 y.symm
        · exact nd1.2 y
def spEndNode (a : Ad) : Sp := fun vs H Q E => ∃ (z : RA) (toks : Marks) (n : Nat) (S : MS) (k : SKind) (g : Bg) (G : List Bg), vs = [.ref z.r, .str (kindS k)] /\ RdAt a H z toks n S /\ S.B.length <= 1000000 /\ S.G = g :: G /\ g.first <= S.B.length /\
  ∀ H' z', z'.r = z.r -> Pass z.M H z'.M H' -> RdAt a H' z' toks n ⟨S.ts, S.pv, S.lv, S.W, S.B.take g.first ++ [.node k g.labels (S.B.drop g.first)], G⟩ -> Q .non H'
section
variable {P : Program} {w : World} {K : PySem.W.Frag} {mg : Str -> Option Value} {base : Heap} {f : Addr} {fd : FuncData} {a : Ad}
theorem sc_end_node : FnScope ["self", "kind", "begun", "kids"] ["self", "kind"] (defScope s_Reader_end_node) := ⟨rfl, rfl, rfl, by decide +kernel, rfl, by decide +kernel, by decide +kernel⟩
theorem ok_end_node (F : Fun K "end_node" "Reader.end_node" s_Reader_end_node f fd) (T : Tx P w K mg a) (Gn : MkAt P w K mg base CX0 1 a.Node "Node" ["self", "kind", "labels", "kids"] (spNode a)) : FnOk P w K mg base CX0 3 f fd ["self", "kind"] (spEndNode a) := by
  refine F.ok sc_end_node (fun vs H Q E h => ?_) (fun cdv A outer s H vs Q E hr h => ?_)
  · obtain ⟨z, toks, n, S, k, g, G, rfl, _⟩ := h; rfl
  · obtain ⟨z, toks, n, S, k, g, G, rfl, hR, hB, eG, hgf, res⟩ := h
    refine ⟨_, pss_cons (ps_set (i := 2) sc_end_node.nd rfl (Or.inl rfl) (pe_bm0 PySem.F.plainAttrs_list PySem.F.slot_list_pop PySem.F.type_list_pop mt_pop (pe_fld (pv 0) rfl)))
      (pss_cons (ps_set (i := 3) sc_end_node.nd rfl (Or.inl rfl) (pe_lst pa_nil))
      (pss_cons (ps_while PassesOwn.never (pt_cmpR op_gt (pe_callB call_len_seq (by rfl) T.b_len PySem.boot_len (pa_cons (pe_fld (pv 0) rfl) pa_nil)) (pe_fld (pv 2) rfl) (nomark _))
        (pss_one (ps_expr (pe_bm PySem.F.plainAttrs_list PySem.F.slot_list_append PySem.F.type_list_append mt_append (pv 3) (pa_cons (pe_bm0 PySem.F.plainAttrs_list PySem.F.slot_list_pop PySem.F.type_list_pop mt_pop (pe_fld (pv 0) rfl)) pa_nil)))))
      (pss_one (ps_expr (pe_bm PySem.F.plainAttrs_list PySem.F.slot_list_append PySem.F.type_list_append mt_append (pe_fld (pv 0) rfl) (pa_cons (pe_makeF Gn hr pass0 (pa_cons (pv 1) (pa_cons (pe_fld (pv 2) rfl) (pa_cons (pe_rev (pv 3)) pa_nil)))) pa_nil)))))), ?_⟩
    obtain ⟨x, gs, ez⟩ : ∃ x gs, z.gs = x :: gs := by
      have := Paired.length hR.gs
      rw [eG] at this
      cases hz : z.gs with
      | nil => rw [hz] at this; cases this
      | cons x gs => exact ⟨x, gs, rfl⟩
    obtain ⟨R1, p1, Bx, nla⟩ := hR.pop ez eG
    have hpop : (z.gs.map (·.g)).reverse.map V.ref = (gs.map (·.g)).reverse.map V.ref ++ [V.ref x.g] := by rw [ez]; simp
    refine ⟨_, rfl, z.r, _, z.dx, _, _, rfl, hR.ins, T.c_Reader, T.n_Reader_begun, reaF_begun _ _ _ _ _ _, .inl ⟨rfl, _, SqL.of hR.gl⟩, z.gl, _, V.ref x.g, rfl, rfl, hR.gl, by rw [hpop]; simp, ?_⟩
    rw [show ((z.gs.map (·.g)).reverse.map V.ref).dropLast = (gs.map (·.g)).reverse.map V.ref by rw [hpop]; simp]
    generalize hz1 : ({ z with gs := gs } : RA) = z1 at R1 p1 Bx nla
    have er : z1.r = z.r := by rw [<- hz1]
    have ebl : z1.bl = z.bl := by rw [<- hz1]
    generalize upd H z.gl (.lst ((gs.map (·.g)).reverse.map V.ref)) = H1 at R1 p1 Bx ⊢
    obtain ⟨gdx, lb, ⟨q1, q1n⟩, q2, q3, q4⟩ := Bx
    obtain ⟨bs, b1, b2⟩ := R1.bl
    have hbl : bs.length = S.B.length := Paired.length (trees_paired.mp b2)
    refine ⟨Nat.zero_le _, fun kl hkl => ?_⟩
    have nkl := R1.fresh hkl
    have klbl : kl ≠ z1.bl := fun e => nkl (by rw [e]; exact z1.mb)
    refine ⟨fun m σ H' => σ = [some (.ref z.r), some (.str (kindS k)), some (.ref x.g), some (.ref kl)] /\ ∃ j, g.first <= j /\ j <= bs.length /\ H' z1.bl = some (.lst ((bs.take j).map V.ref)) /\ H' kl = some (.lst ((bs.drop j).reverse.map V.ref)) /\ (∀ b o, H1 b = some o -> b ≠ z1.bl -> H' b = some o) /\ j = m,
      ⟨_, rfl, bs.length, by omega, Nat.le_refl _, ?_, ?_, fun b o e _ => same_new hkl _ _ e, rfl⟩, ?_⟩
    · rw [upd_ne (Ne.symm klbl), List.take_length]; exact b1
    · rw [upd_same, List.drop_length]; rfl
    rintro m σ H2 ⟨rfl, j, hj1, hj2, hb2, hk2, k2, rfl⟩
    have rbl : z.r ≠ z1.bl := by rw [<- er]; exact Ne.symm (R1.nr (RdAt.ob z1))
    have ins2 := k2 _ _ (er ▸ R1.ins) rbl
    have xg2 := k2 _ _ q1 (fun e => q1n (by rw [e]; exact z1.mb))
    refine ⟨_, rfl, z.r, _, _, _, _, rfl, ins2, T.c_Reader, T.n_Reader_built, reaF_built _ _ _ _ _ _, z1.bl, _, rfl, .inl (SqL.of hb2), _, rfl, x.g, _, gdx, _, _, rfl, xg2, T.c_Begun, T.n_Begun_first, begF_first _ _ _, _, _, rfl, rfl, _, rfl, ?_⟩
    rw [show (((bs.take j).map V.ref).length : Int) = (j : Int) by rw [List.length_map, List.length_take, Nat.min_eq_left hj2]]
    refine ite2 (fun hlt => ?_) fun hlt => ?_
    · have hlt : g.first < j := by have := of_decide_eq_true hlt; omega
      obtain ⟨j, rfl⟩ : ∃ i, j = i + 1 := ⟨j - 1, by omega⟩
      have hjl : j < bs.length := by omega
      refine ⟨_, fun σ' H' q => q, ?_⟩
      have hlast : (bs.take (j + 1)).map V.ref = (bs.take j).map V.ref ++ [V.ref bs[j]] := by rw [List.take_succ, List.getElem?_eq_getElem hjl, List.map_append]; rfl
      refine ⟨_, rfl, .inl ⟨rfl, _, SqL.of hk2⟩, _, rfl, z.r, _, _, _, _, rfl, ins2, T.c_Reader, T.n_Reader_built, reaF_built _ _ _ _ _ _, .inl ⟨rfl, _, SqL.of hb2⟩, z1.bl, _, V.ref bs[j], rfl, rfl, hb2, by rw [hlast]; simp, ?_⟩
      rw [show ((bs.take (j + 1)).map V.ref).dropLast = (bs.take j).map V.ref by rw [hlast]; simp]
      refine ⟨kl, _, _, rfl, rfl, by rw [upd_ne klbl]; exact hk2, ?_, ?_⟩
      · rw [List.length_map, List.length_reverse, List.length_drop]; exact small1000' (by omega)
      · refine ⟨j, Nat.lt_succ_self _, rfl, j, by omega, by omega, ?_, ?_, fun b o e nb => ?_, rfl⟩
        · rw [upd_ne (Ne.symm klbl), upd_same]
        · rw [upd_same, List.drop_eq_getElem_cons hjl, List.reverse_cons, List.map_append]; rfl
        · rw [upd_ne (ne_of_none e hkl), upd_ne nb]; exact k2 b o e nb
    · have hjf : j = g.first := by
        have : ¬ ((g.first : Int) < (j : Int)) := fun y => hlt (decide_eq_true y)
        omega
      subst hjf
      refine ⟨_, rfl, z.r, _, _, _, _, rfl, ins2, T.c_Reader, T.n_Reader_built, reaF_built _ _ _ _ _ _, .inl ⟨rfl, _, SqL.of hb2⟩, ?_⟩
      refine ⟨_, rfl, _, rfl, x.g, _, gdx, _, _, rfl, xg2, T.c_Begun, T.n_Begun_labels, begF_labels _ _ _, _, rfl, kl, _, rfl, SqL.of hk2, fun rl hrl => ?_⟩
      rw [show ((bs.drop g.first).reverse.map V.ref).reverse = (bs.drop g.first).map V.ref by simp]
      have s3 := same_new (o := .lst ((bs.drop g.first).map V.ref)) hrl
      have hrl3 : (upd H2 rl (.lst ((bs.drop g.first).map V.ref))) rl = some (.lst ((bs.drop g.first).map V.ref)) := upd_same
      generalize upd H2 rl (.lst ((bs.drop g.first).map V.ref)) = H3 at s3 hrl3 ⊢
      intro t tdx ht htdx hne
      have s4 : Same H3 (upd (upd H3 tdx (.own t)) t (.ins a.Node tdx [])) := fun b o e => by rw [upd_ne (ne_of_none e ht), upd_ne (ne_of_none e htdx)]; exact e
      have R3 : RdAt a H3 z1 toks n { S with G := G, B := S.B.take g.first } := by
        have hT : TreesAt a z1.M H1 (S.B.take g.first) (bs.take g.first) := trees_paired.mpr (paired_take _ (trees_paired.mp b2))
        refine (R1.putB hT).same fun b o e => ?_
        by_cases hb : b = z1.bl
        · subst hb
          rw [upd_same] at e
          rw [<- e]
          exact s3 _ _ hb2
        · rw [upd_ne hb] at e
          exact s3 _ _ (k2 b o e hb)
      have P3 : Pass z1.M H1 z1.M H3 := fun b o e nb => ⟨s3 _ _ (k2 b o e (fun y => nb (by rw [y]; exact z1.mb))), nb⟩
      have hKd : TreesAt a z1.M H3 (S.B.drop g.first) (bs.drop g.first) := TreesAt.pass P3 _ _ (trees_paired.mpr (paired_drop _ (trees_paired.mp b2)))
      have hND := nodes_of (TreesAt.pass (pass_same s4) _ _ hKd)
      refine ⟨t, tdx, rl, _, _, bs.drop g.first, _, rfl, upd_same, s4 _ _ hrl3, hND, by rw [List.length_drop]; omega, fun H5 m k5 h1 h2 ht5 => ⟨rfl, ?_⟩⟩
      have em := depths_max _ m h1 h2
      have s5 : Same H3 H5 := fun b o e => k5 b o (s4 b o e) (ne_of_none e ht)
      have R5 := R3.same s5
      have nt5 : ¬ z1.M t := R3.fresh ht
      have nrl : ¬ z1.M rl := fun y => by
        rcases y with y | y
        · have := k2 _ _ R1.ins (by exact Ne.symm (R1.nr (RdAt.ob z1)))
          rw [<- y, hrl] at this; cases this
        · obtain ⟨o, e, _⟩ := R1.own_some y
          by_cases hb : rl = z1.bl
          · rw [hb, hb2] at hrl; cases hrl
          · rw [k2 _ _ e hb] at hrl; cases hrl
      have P5 : Pass z1.M H1 z1.M H5 := fun b o e nb => ⟨s5 _ _ (P3 b o e nb).1, nb⟩
      have hTree : TreeAt a z1.M H5 (.node k g.labels (S.B.drop g.first)) t := by
        unfold TreeAt
        refine ⟨tdx, x.la, rl, lb, bs.drop g.first, ⟨?_, nt5⟩, P5 _ _ q2 nla, q3.pass P5, ⟨s5 _ _ hrl3, nrl⟩, TreesAt.pass (pass_same s5) _ _ hKd⟩
        rw [ht5, em, show (1 + ((Vastoa.depths (S.B.drop g.first) : Nat) : Int)) = ((Vastoa.depths (S.B.drop g.first) + 1 : Nat) : Int) by omega]
      obtain ⟨bs5, b5, c5⟩ := R5.bl
      have hb5 : H5 z1.bl = some (.lst ((bs.take g.first).map V.ref)) := s5 _ _ (s3 _ _ hb2)
      have e5 : bs5 = bs.take g.first := by
        rw [b5] at hb5
        have := Option.some.inj hb5
        injection this with this
        exact (List.map_inj_right (fun x y q => by injection q)).mp this
      subst e5
      refine ⟨z1.bl, _, _, rfl, rfl, hb5, ?_, ?_⟩
      · rw [List.length_map, List.length_take]; exact small1000' (by omega)
      have c6 : TreesAt a z1.M H5 (S.B.take g.first ++ [.node k g.labels (S.B.drop g.first)]) (bs.take g.first ++ [t]) := trees_paired.mpr (paired_snoc (trees_paired.mp c5) hTree)
      have R6 := R5.putB c6
      rw [List.map_append] at R6
      exact res _ z1 er (pass_trans (pass_trans p1 P5) (pass_keep (Keep.at_ z1.mb))) R6
end
end RT
end
section
set_option Elab.async false
set_option linter.all false
set_option maxRecDepth 100000
set_option maxHeartbeats 2000000
namespace RT
open PySem PySem.Spec PyProof.Rows L2
open Vastoa (Mark Marks)
open RM (Part Sym choice kd held MS Bg)
theorem atI_map {α β : Type} (f : α -> β) (xs : List α) (i : Int) : atI (xs.map f) i = (atI xs i).map f := by
  unfold atI
  rw [List.length_map]
  cases ixN xs.length i with
  | none => rfl
  | some j => show (xs.map f)[j]? = (xs[j]?).map f; rw [List.getElem?_map]
theorem paired_atI {A B : Type} {R : A -> B -> Prop} {as : List A} {bs : List B} {i : Int} {y : B} (h : Paired R as bs) (e : atI bs i = some y) : ∃ x, atI as i = some x /\ R x y := by
  unfold atI at e ⊢
  rw [Paired.length h]
  cases hj : ixN bs.length i with
  | none => rw [hj] at e; cases e
  | some j =>
    rw [hj] at e
    exact paired_get h e
section
variable {a : Ad} {H H' : Hp} {z : RA} {toks : Marks} {n : Nat} {S : MS}
theorem RdAt.head {x : BA} {gs : List BA} {g g' : Bg} {G : List Bg} {b : Addr} (h : RdAt a H z toks n S) (ez : z.gs = x :: gs) (eG : S.G = g :: G) (hb : b = x.la \/ b = x.na) (k : ∀ c o, H c = some o -> c ≠ b -> H' c = some o)
    (hx : BgAt a z.M H' x g') : RdAt a H' z toks n { S with G := g' :: G } /\ Pass z.M H z.M H' := by
  obtain ⟨as, t1, t2⟩ := h.tks
  obtain ⟨bs, b1, b2⟩ := h.bl
  obtain ⟨n1, n2, n3⟩ := h.nwl
  obtain ⟨m1, m2⟩ := h.nbl
  obtain ⟨g1, g2⟩ := h.ngl
  have ho : b ∈ owns z.gs := by
    rw [ez]
    rcases hb with rfl | rfl
    · exact (mem_owns List.mem_cons_self).1
    · exact (mem_owns List.mem_cons_self).2
  have hM : z.M b := z.mo ho
  have p : Pass z.M H z.M H' := fun c o e nc => ⟨k c o e (fun y => nc (by rw [y]; exact hM)), nc⟩
  have hgs := h.gs
  rw [ez, eG] at hgs
  have nd := g2
  rw [ez] at nd
  have eo : owns (x :: gs) = x.la :: x.na :: owns gs := rfl
  rw [eo] at nd
  obtain ⟨nd1, nd2⟩ := List.nodup_cons.mp nd
  obtain ⟨nd3, nd4⟩ := List.nodup_cons.mp nd2
  simp only [List.mem_cons, not_or] at nd1
  have hbn : b ∉ owns gs := by rcases hb with rfl | rfl; exact nd1.2; exact nd3
  cases hgs with
  | cons q0 qs =>
    refine ⟨⟨k _ _ h.ins (Ne.symm (h.nr (RdAt.oo z ho))), ⟨as, p _ _ t1.1 t1.2, paired_imp (fun x y q => q.pass p) t2⟩, k _ _ h.wl (fun e => n3 (by rw [e]; exact ho)), ⟨bs, k _ _ b1 (fun e => m2 (by rw [e]; exact ho)), TreesAt.pass p _ _ b2⟩, k _ _ h.gl (fun e => g1 (by rw [e]; exact ho)), ?_, h.nd, h.ts, h.pv⟩, p⟩
    rw [ez]
    refine .cons hx (paired_mem (fun y g'' hy q => ?_) qs)
    obtain ⟨dx, lb, c1, c2, c3, c4⟩ := q
    exact ⟨dx, lb, p _ _ c1.1 c1.2, k _ _ c2 (fun e => hbn (e ▸ (mem_owns hy).1)), c3.pass p, k _ _ c4 (fun e => hbn (e ▸ (mem_owns hy).2))⟩
theorem RdAt.push {H1 : Hp} {x : BA} {dx : Addr} {first : Nat} (h : RdAt a H z toks n S) (s : Same H H1) (hg : H x.g = none) (hla : H x.la = none) (hna : H x.na = none) (ln : x.la ≠ x.na) (gl1 : x.g ≠ x.la) (gn1 : x.g ≠ x.na)
    (e1 : H1 x.g = some (.ins a.Begun dx (begF (.int (first : Int)) (.ref x.la) (.ref x.na)))) (e2 : H1 x.la = some (.lst [])) (e3 : H1 x.na = some (.dT [])) :
    RdAt a (upd H1 z.gl (.lst ((z.gs.map (·.g)).reverse.map V.ref ++ [.ref x.g]))) { z with gs := x :: z.gs } toks n { S with G := ⟨first, [], []⟩ :: S.G } /\
    Pass z.M H ({ z with gs := x :: z.gs } : RA).M (upd H1 z.gl (.lst ((z.gs.map (·.g)).reverse.map V.ref ++ [.ref x.g]))) := by
  obtain ⟨as, t1, t2⟩ := h.tks
  obtain ⟨bs, b1, b2⟩ := h.bl
  obtain ⟨n1, n2, n3⟩ := h.nwl
  obtain ⟨m1, m2⟩ := h.nbl
  obtain ⟨g1, g2⟩ := h.ngl
  have some_ne : ∀ {b : Addr}, b ∈ z.own -> b ≠ x.la /\ b ≠ x.na := fun {b} hb => by
    obtain ⟨o, e, _⟩ := h.own_some hb
    exact ⟨ne_of_none e hla, ne_of_none e hna⟩
  have inM : ∀ b, ({ z with gs := x :: z.gs } : RA).M b -> z.M b \/ b = x.la \/ b = x.na := fun b hb => by
    rcases hb with hb | hb
    · exact .inl (.inl hb)
    · have hb : b ∈ z.wl :: z.bl :: z.gl :: x.la :: x.na :: owns z.gs := hb
      simp only [List.mem_cons] at hb
      rcases hb with hb | hb | hb | hb | hb | hb
      · exact .inl (by rw [hb]; exact z.mw)
      · exact .inl (by rw [hb]; exact z.mb)
      · exact .inl (by rw [hb]; exact z.mg)
      · exact .inr (.inl hb)
      · exact .inr (.inr hb)
      · exact .inl (z.mo hb)
  have p : Pass z.M H ({ z with gs := x :: z.gs } : RA).M (upd H1 z.gl (.lst ((z.gs.map (·.g)).reverse.map V.ref ++ [.ref x.g]))) := fun b o e nb => by
    refine ⟨?_, fun y => ?_⟩
    · rw [upd_ne (fun y => nb (by rw [y]; exact z.mg))]; exact s b o e
    · rcases inM b y with y | y | y
      · exact nb y
      · exact ne_of_none e hla y
      · exact ne_of_none e hna y
  have own : ∀ b o, H b = some o -> b ≠ z.gl -> (upd H1 z.gl (.lst ((z.gs.map (·.g)).reverse.map V.ref ++ [.ref x.g]))) b = some o := fun b o e nb => by rw [upd_ne nb]; exact s b o e
  have xgl : x.g ≠ z.gl := fun e => by rw [e, h.gl] at hg; cases hg
  have nxg : ¬ ({ z with gs := x :: z.gs } : RA).M x.g := fun y => by
    rcases inM _ y with y | y | y
    · exact h.fresh hg y
    · exact gl1 y
    · exact gn1 y
  refine ⟨⟨own _ _ h.ins (Ne.symm (h.nr (RdAt.og z))), ⟨as, p _ _ t1.1 t1.2, paired_imp (fun x y q => q.pass p) t2⟩, own _ _ h.wl n2, ⟨bs, own _ _ b1 m1, TreesAt.pass p _ _ b2⟩, ?_, ?_, ?_, h.ts, h.pv⟩, p⟩
  · show upd H1 z.gl _ z.gl = _
    rw [upd_same]
    simp
  · refine .cons ⟨dx, [], ⟨?_, nxg⟩, ?_, .nil, ?_⟩ (paired_mem (fun y g'' hy q => ?_) h.gs)
    · rw [upd_ne xgl]; exact e1
    · rw [upd_ne (Ne.symm (some_ne (RdAt.og z)).1)]; exact e2
    · rw [upd_ne (Ne.symm (some_ne (RdAt.og z)).2)]; exact e3
    · obtain ⟨dx, lb, c1, c2, c3, c4⟩ := q
      exact ⟨dx, lb, p _ _ c1.1 c1.2, own _ _ c2 (fun e => g1 (e ▸ (mem_owns hy).1)), c3.pass p, own _ _ c4 (fun e => g1 (e ▸ (mem_owns hy).2))⟩
  · show (z.wl :: z.bl :: z.gl :: x.la :: x.na :: owns z.gs).Nodup
    refine List.nodup_cons.mpr ⟨?_, List.nodup_cons.mpr ⟨?_, List.nodup_cons.mpr ⟨?_, List.nodup_cons.mpr ⟨?_, List.nodup_cons.mpr ⟨?_, g2⟩⟩⟩⟩⟩
    · simp only [List.mem_cons, not_or]; exact ⟨n1, n2, (some_ne (RdAt.ow z)).1, (some_ne (RdAt.ow z)).2, n3⟩
    · simp only [List.mem_cons, not_or]; exact ⟨m1, (some_ne (RdAt.ob z)).1, (some_ne (RdAt.ob z)).2, m2⟩
    · simp only [List.mem_cons, not_or]; exact ⟨(some_ne (RdAt.og z)).1, (some_ne (RdAt.og z)).2, g1⟩
    · simp only [List.mem_cons, not_or]; exact ⟨ln, fun y => (some_ne (RdAt.oo z y)).1 rfl⟩
    · exact fun y => (some_ne (RdAt.oo z y)).2 rfl
end
def spAct (a : Ad) (K : PySem.W.Frag) : Sp := fun vs H Q E => ∃ (z : RA) (toks : Marks) (n : Nat) (S : MS) (x : SAct), vs = [.ref z.r, .str (actS x)] /\ RdAt a H z toks n S /\ S.B.length <= 1000000 /\ RM.gw S.G <= 500000 /\
  RdRes a K z toks H (RM.stepA x S.ts S.pv S.lv S.W S.B S.G) (Q .non) E
theorem act_eq (x y : SAct) : decide (V.str (actS x) = V.str (actS y)) = decide (x = y) := decide_eq_decide.mpr ⟨fun e => act_inj x (mem_acts x) y (mem_acts y) (by injection e), fun e => by rw [e]⟩
end RT
end
section
set_option Elab.async false
set_option linter.all false
set_option maxRecDepth 100000
set_option maxHeartbeats 2000000
namespace RT
open PySem PySem.Spec PyProof.Rows L2
open Vastoa (Mark Marks)
open RM (Part Sym choice kd held MS Bg)
section
variable {P : Program} {w : World} {K : PySem.W.Frag} {mg : Str -> Option Value} {base : Heap} {f : Addr} {fd : FuncData} {a : Ad}
theorem sc_act : FnScope ["self", "action"] ["self", "action"] (defScope s_Reader_act) := ⟨rfl, rfl, rfl, by decide +kernel, rfl, by decide +kernel, by decide +kernel⟩
theorem ok_act (F : Fun K "act" "Reader.act" s_Reader_act f fd) (T : Tx P w K mg a) (Gb : MkAt P w K mg base CX0 1 a.Begun "Begun" ["self", "first"] (spBegun a)) (Gm : FnAt P w K mg base (CXR P w) 4 "meet_name" ["names", "token"] (spMeet a K))
    (Ge : MtAt P w K mg base (CXR P w) 4 a.Reader "enter_level" ["self"] (spEnter a K)) (Gn : MtAt P w K mg base CX0 3 a.Reader "end_node" ["self", "kind"] (spEndNode a)) : FnOk P w K mg base (CXR P w) 5 f fd ["self", "action"] (spAct a K) := by
  refine F.okR sc_act (fun vs H Q E h => ?_) (fun cdv A outer s H vs Q E hr h => ?_)
  · obtain ⟨z, toks, n, S, x, rfl, _⟩ := h; rfl
  · obtain ⟨z, toks, n, S, x, rfl, hR, hB, hG, res⟩ := h
    have hr2 : Room 2 _ := hr.mono (by decide)
    have hr3 : Room 3 _ := hr.mono (by decide)
    refine ⟨_, pss_one (ps_if (pt_cmpR op_eq (pv 1) pe_str (nomark _)) (pss_one (ps_expr (pe_bm PySem.F.plainAttrs_list PySem.F.slot_list_append PySem.F.type_list_append mt_append (pe_fld (pv 0) rfl) (pa_cons (pe_makeF Gb hr2 pass0 (pa_cons (pe_callB call_len_seq (by rfl) T.b_len PySem.boot_len (pa_cons (pe_fld (pv 0) rfl) pa_nil)) pa_nil)) pa_nil))))
      (pss_one (ps_if (pt_cmpR op_eq (pv 1) pe_str (nomark _)) (pss_one (ps_expr (pe_bm PySem.F.plainAttrs_list PySem.F.slot_list_append PySem.F.type_list_append mt_append (pe_fld (pv 0) rfl) (pa_cons (pe_makeF Gb hr2 pass0 (pa_cons (pe_op op_sub (pe_callB call_len_seq (by rfl) T.b_len PySem.boot_len (pa_cons (pe_fld (pv 0) rfl) pa_nil)) pe_int) pa_nil)) pa_nil))))
      (pss_one (ps_if (pt_cmpR op_eq (pv 1) pe_str (nomark _)) (pss_one (ps_expr (pe_bm PySem.F.plainAttrs_list PySem.F.slot_list_append PySem.F.type_list_append mt_append (pe_fld (pe_ix ix_list (pe_fld (pv 0) rfl) (pe_un un_neg pe_int) (fun _ _ => rfl)) rfl) (pa_cons (pe_fld (pe_ix ix_list (pe_fld (pv 0) rfl) (pe_op op_sub (pe_fld (pv 0) rfl) pe_int) (fun _ _ => rfl)) rfl) pa_nil))))
      (pss_one (ps_if (pt_cmpR op_eq (pv 1) pe_str (nomark _)) (pss_one (ps_expr (pe_callF Gm hr pass_r (pa_cons (pe_fld (pe_ix ix_list (pe_fld (pv 0) rfl) (pe_un un_neg pe_int) (fun _ _ => rfl)) rfl) (pa_cons (pe_ix ix_list (pe_fld (pv 0) rfl) (pe_op op_sub (pe_fld (pv 0) rfl) pe_int) (fun _ _ => rfl)) pa_nil)))))
      (pss_one (ps_if (pt_cmpR op_eq (pv 1) pe_str (nomark _)) (pss_one (ps_expr (pe_methF0 Ge T.c_Reader hr pass_r (pv 0))))
      (pss_one (ps_if (pt_cmpR op_eq (pv 1) pe_str (nomark _)) (pss_one (ps_fldaug (pv 0) pe_int in_sub))
      (pss_one (ps_expr (pe_methF Gn T.c_Reader hr3 pass0 (pv 0) (pa_cons (pv 1) pa_nil))))))))))))))), ?_⟩
    obtain ⟨as, t1, t2⟩ := hR.tks
    obtain ⟨bs, b1, b2⟩ := hR.bl
    have hbl : bs.length = S.B.length := Paired.length (trees_paired.mp b2)
    have hgl := RM.gw_len S.G
    have hgz : z.gs.length = S.G.length := Paired.length hR.gs
    have glen : ((z.gs.map (·.g)).reverse.map V.ref).length < sizeLine := by
      rw [List.length_map, List.length_reverse, List.length_map]; exact small1000' (by omega)
    have beg : ∀ (i : Int) (first : Nat), i = (first : Int) -> (∀ H' z' n', z'.r = z.r -> Pass z.M H z'.M H' -> RdAt a H' z' toks n' { S with G := ⟨first, [], []⟩ :: S.G } -> Q .non H') ->
        ∀ gx dx, H gx = none -> H dx = none -> dx ≠ gx -> spBegun a [.ref gx, .int i] (upd (upd H dx (.own gx)) gx (.ins a.Begun dx []))
          (fun v H2 => v = .non /\ rAppend (.ref z.gl) [.ref gx] H2 (fun _ H3 => Q .non H3)) E0 := by
      intro i first ei kk gx dx hgx hdx hne
      subst ei
      have s1 : Same H (upd (upd H dx (.own gx)) gx (.ins a.Begun dx [])) := fun b o e => by rw [upd_ne (ne_of_none e hgx), upd_ne (ne_of_none e hdx)]; exact e
      refine ⟨gx, dx, first, rfl, upd_same, fun H2 la na k2 hla hna ln e1 e2 e3 => ⟨rfl, ?_⟩⟩
      have s2 : Same H H2 := fun b o e => k2 b o (s1 b o e) (ne_of_none e hgx)
      have gla : gx ≠ la := ne_of_none upd_same hla
      have gna : gx ≠ na := ne_of_none upd_same hna
      obtain ⟨R2, p2⟩ := hR.push (x := ⟨gx, la, na⟩) (first := first) s2 hgx (s1.free hla) (s1.free hna) ln gla gna e1 e2 e3
      exact ⟨z.gl, _, _, rfl, rfl, s2 _ _ hR.gl, glen, kk _ { z with gs := ⟨gx, la, na⟩ :: z.gs } n rfl p2 R2⟩
    refine ⟨_, rfl, rfl, _, rfl, ?_⟩
    rw [show V.str (Str.ofString "begin") = V.str (actS .begin) from rfl, act_eq]
    by_cases h1 : x = .begin
    · subst h1
      rw [decide_eq_true rfl]
      refine iteT ⟨_, rfl, z.r, _, z.dx, _, _, rfl, hR.ins, T.c_Reader, T.n_Reader_begun, reaF_begun _ _ _ _ _ _, .inl ⟨rfl, _, SqL.of hR.gl⟩, ?_⟩
      refine ⟨_, rfl, z.r, _, z.dx, _, _, rfl, hR.ins, T.c_Reader, T.n_Reader_built, reaF_built _ _ _ _ _ _, z.bl, _, rfl, .inl (SqL.of b1), ?_⟩
      exact beg _ S.B.length (by rw [List.length_map, hbl]) res
    rw [decide_eq_false h1]
    refine iteF ⟨_, rfl, rfl, _, rfl, ?_⟩
    rw [show V.str (Str.ofString "take") = V.str (actS .take) from rfl, act_eq]
    by_cases h2 : x = .take
    · subst h2
      rw [decide_eq_true rfl]
      refine iteT ⟨_, rfl, z.r, _, z.dx, _, _, rfl, hR.ins, T.c_Reader, T.n_Reader_begun, reaF_begun _ _ _ _ _ _, .inl ⟨rfl, _, SqL.of hR.gl⟩, ?_⟩
      refine ⟨_, rfl, z.r, _, z.dx, _, _, rfl, hR.ins, T.c_Reader, T.n_Reader_built, reaF_built _ _ _ _ _ _, z.bl, _, rfl, .inl (SqL.of b1), _, _, rfl, rfl, ?_⟩
      have res : RdRes a K z toks H (if S.B.length = 0 then none else some (.ok { S with G := ⟨S.B.length - 1, [], []⟩ :: S.G })) (Q .non) E := res
      by_cases h0 : S.B.length = 0
      · rw [if_pos h0] at res; exact res.elim
      · rw [if_neg h0] at res
        exact beg _ (S.B.length - 1) (by rw [List.length_map, hbl]; omega) res
    rw [decide_eq_false h2]
    refine iteF ⟨_, rfl, rfl, _, rfl, ?_⟩
    rw [show V.str (Str.ofString "label") = V.str (actS .label) from rfl, act_eq]
    obtain ⟨t, ht, dx, ha, ht1, ht2, nt1, nt2⟩ := paired_atI t2 hR.pv
    have htV : atI (as.map V.ref) ((n : Int) - 1) = some (.ref t) := by rw [atI_map, ht]; rfl
    by_cases h3 : x = .label
    · subst h3
      rw [decide_eq_true rfl]
      cases eG : S.G with
      | nil => rw [eG] at res; exact res.elim
      | cons g G =>
        rw [eG] at res
        obtain ⟨y, gs, ez⟩ : ∃ y gs, z.gs = y :: gs := by
          rw [eG] at hgz
          cases hz : z.gs with
          | nil => rw [hz] at hgz; cases hgz
          | cons y gs => exact ⟨y, gs, rfl⟩
        have hgs := hR.gs
        rw [ez, eG] at hgs
        cases hgs with
        | cons q0 qs =>
          obtain ⟨gdx, lb, ⟨c1, c1n⟩, c2, c3, c4⟩ := q0
          have hlast : atI ((z.gs.map (·.g)).reverse.map V.ref) (-1) = some (.ref y.g) := by
            rw [ez, show ((y :: gs).map (·.g)).reverse.map V.ref = (gs.map (·.g)).reverse.map V.ref ++ [V.ref y.g] by simp]
            exact atI_last _ _
          have hlab : lb.length < 1000000 := by
            have e1 := Paired.length c3
            have e2 := RM.gw_mem (G := S.G) (g := g) (by rw [eG]; exact List.mem_cons_self)
            omega
          refine iteT ⟨_, rfl, z.r, _, z.dx, _, _, rfl, hR.ins, T.c_Reader, T.n_Reader_begun, reaF_begun _ _ _ _ _ _, _, rfl, z.gl, _, _, _, rfl, rfl, SqL.of hR.gl, hlast, y.g, _, gdx, _, _, rfl, c1, T.c_Begun, T.n_Begun_labels, begF_labels _ _ _, .inl ⟨rfl, _, SqL.of c2⟩, ?_⟩
          refine ⟨_, rfl, z.r, _, z.dx, _, _, rfl, hR.ins, T.c_Reader, T.n_Reader_tokens, reaF_tokens _ _ _ _ _ _, _, rfl, z.r, _, z.dx, _, _, rfl, hR.ins, T.c_Reader, T.n_Reader_at, reaF_at _ _ _ _ _ _, _, _, rfl, rfl, z.ts, _, _, _, rfl, rfl, SqL.of t1.1, htV, t, _, dx, _, _, rfl, ht1, T.c_Token, T.n_Token_held, tokF_held _ _ _, y.la, _, _, rfl, rfl, c2, by rw [List.length_map]; exact small1000' (by omega), ?_⟩
          have yla : z.M y.la := z.mo (by rw [ez]; exact (mem_owns List.mem_cons_self).1)
          have kk : Keep z.M H (upd H y.la (.lst (lb.map V.ref ++ [.ref ha]))) := Keep.at_ yla
          have yn : y.na ≠ y.la := ne_of c4 c2 (by intro q; cases q)
          have bx : BgAt a z.M (upd H y.la (.lst (lb.map V.ref ++ [.ref ha]))) y ⟨g.first, g.labels ++ [held S.pv.tok], g.names⟩ := by
            refine ⟨gdx, lb ++ [ha], ⟨kk _ _ c1 c1n, c1n⟩, by rw [upd_same, List.map_append]; rfl, paired_snoc (c3.pass (pass_keep kk)) ⟨kk _ _ ht2 nt2, nt2⟩, by rw [upd_ne yn]; exact c4⟩
          obtain ⟨R2, p2⟩ := hR.head ez eG (.inl rfl) (fun c o e nc => by rw [upd_ne nc]; exact e) bx
          exact res _ z n rfl p2 R2
    rw [decide_eq_false h3]
    refine iteF ⟨_, rfl, rfl, _, rfl, ?_⟩
    rw [show V.str (Str.ofString "fresh") = V.str (actS .fresh) from rfl, act_eq]
    by_cases h4 : x = .fresh
    · subst h4
      rw [decide_eq_true rfl]
      cases eG : S.G with
      | nil => rw [eG] at res; exact res.elim
      | cons g G =>
        rw [eG] at res
        obtain ⟨y, gs, ez⟩ : ∃ y gs, z.gs = y :: gs := by
          rw [eG] at hgz
          cases hz : z.gs with
          | nil => rw [hz] at hgz; cases hgz
          | cons y gs => exact ⟨y, gs, rfl⟩
        have hgs := hR.gs
        rw [ez, eG] at hgs
        cases hgs with
        | cons q0 qs =>
          obtain ⟨gdx, lb, ⟨c1, c1n⟩, c2, c3, c4⟩ := q0
          have hlast : atI ((z.gs.map (·.g)).reverse.map V.ref) (-1) = some (.ref y.g) := by
            rw [ez, show ((y :: gs).map (·.g)).reverse.map V.ref = (gs.map (·.g)).reverse.map V.ref ++ [V.ref y.g] by simp]
            exact atI_last _ _
          have hnm : g.names.length <= 1000000 := by
            have e2 := RM.gw_mem (G := S.G) (g := g) (by rw [eG]; exact List.mem_cons_self)
            omega
          have res : RdRes a K z toks H (if held S.pv.tok ∈ g.names then some (.error ⟨5, S.pv.place⟩) else some (.ok { S with G := ⟨g.first, g.labels, g.names ++ [held S.pv.tok]⟩ :: G })) (Q .non) E := res
          refine iteT ⟨_, rfl, z.r, _, z.dx, _, _, rfl, hR.ins, T.c_Reader, T.n_Reader_begun, reaF_begun _ _ _ _ _ _, _, rfl, z.gl, _, _, _, rfl, rfl, SqL.of hR.gl, hlast, y.g, _, gdx, _, _, rfl, c1, T.c_Begun, T.n_Begun_names, begF_names _ _ _, ?_⟩
          refine ⟨_, rfl, z.r, _, z.dx, _, _, rfl, hR.ins, T.c_Reader, T.n_Reader_tokens, reaF_tokens _ _ _ _ _ _, _, rfl, z.r, _, z.dx, _, _, rfl, hR.ins, T.c_Reader, T.n_Reader_at, reaF_at _ _ _ _ _ _, _, _, rfl, rfl, z.ts, _, _, _, rfl, rfl, SqL.of t1.1, htV, ?_⟩
          refine ⟨y.na, t, g.names, S.pv, rfl, c4, ⟨dx, ha, ht1, ht2, id, id⟩, hnm, fun hm => ?_, fun hm H2 k2 e2 => ?_⟩
          · rw [if_pos hm] at res
            exact XWM.on res (Keep.refl _ _)
          · rw [if_neg hm] at res
            have yna : z.M y.na := z.mo (by rw [ez]; exact (mem_owns List.mem_cons_self).2)
            have p0 : Pass z.M H z.M H2 := fun b o e nb => ⟨k2 b o e (fun q => nb (by rw [q]; exact yna)), nb⟩
            have yn : y.la ≠ y.na := ne_of c2 c4 (by intro q; cases q)
            have bx : BgAt a z.M H2 y ⟨g.first, g.labels, g.names ++ [held S.pv.tok]⟩ := ⟨gdx, lb, p0 _ _ c1 c1n, k2 _ _ c2 yn, c3.pass p0, e2⟩
            obtain ⟨R2, p2⟩ := hR.head ez eG (.inr rfl) k2 bx
            exact res _ z n rfl p2 R2
    rw [decide_eq_false h4]
    refine iteF ⟨_, rfl, rfl, _, rfl, ?_⟩
    rw [show V.str (Str.ofString "enter") = V.str (actS .enter) from rfl, act_eq]
    by_cases h5 : x = .enter
    · subst h5
      rw [decide_eq_true rfl]
      exact iteT ⟨_, rfl, z.r, z.dx, _, rfl, hR.ins, reaF_no_enter_level _ _ _ _ _ _, z, toks, n, S, rfl, hR, res⟩
    rw [decide_eq_false h5]
    refine iteF ⟨_, rfl, rfl, _, rfl, ?_⟩
    rw [show V.str (Str.ofString "leave") = V.str (actS .leave) from rfl, act_eq]
    by_cases h6 : x = .leave
    · subst h6
      rw [decide_eq_true rfl]
      have res : RdRes a K z toks H (if S.lv = 0 then none else some (.ok { S with lv := S.lv - 1 })) (Q .non) E := res
      by_cases h0 : S.lv = 0
      · rw [if_pos h0] at res; exact res.elim
      · rw [if_neg h0] at res
        refine iteT ⟨_, rfl, z.r, _, z.dx, _, _, rfl, hR.ins, T.c_Reader, T.n_Reader_level, reaF_level _ _ _ _ _ _, _, _, rfl, rfl, z.dx, _, hR.ins, (by show 6 < 1000; decide), ?_⟩
        rw [show ((S.lv : Int) - 1) = ((S.lv - 1 : Nat) : Int) by omega]
        exact res _ z n rfl (pass_keep (Keep.at_ z.mr)) (hR.put n (S.lv - 1) S.ts S.pv hR.ts hR.pv)
    rw [decide_eq_false h6]
    obtain ⟨k, rfl⟩ : ∃ k, x = .fin k := by
      cases x with
      | fin k => exact ⟨k, rfl⟩
      | begin => exact absurd rfl h1
      | take => exact absurd rfl h2
      | label => exact absurd rfl h3
      | fresh => exact absurd rfl h4
      | enter => exact absurd rfl h5
      | leave => exact absurd rfl h6
    cases eG : S.G with
    | nil => rw [eG] at res; exact res.elim
    | cons g G =>
      rw [eG] at res
      have res : RdRes a K z toks H (if g.first <= S.B.length then some (.ok ⟨S.ts, S.pv, S.lv, S.W, S.B.take g.first ++ [.node k g.labels (S.B.drop g.first)], G⟩) else none) (Q .non) E := res
      by_cases hf : g.first <= S.B.length
      · rw [if_pos hf] at res
        exact iteF ⟨_, rfl, z.r, z.dx, _, rfl, hR.ins, reaF_no_end_node _ _ _ _ _ _, _, rfl, z, toks, n, S, k, g, G, rfl, hR, hB, eG, hf, fun H' z' e p R => res H' z' n e p R⟩
      · rw [if_neg hf] at res; exact res.elim
end
end RT
end
section
set_option Elab.async false
set_option linter.all false
set_option maxRecDepth 100000
set_option maxHeartbeats 2000000
namespace RT
open PySem PySem.Spec PyProof.Rows L2
open Vastoa (Mark Marks)
open RM (Part Sym choice kd held MS Bg)
theorem RdRes.on {a : Ad} {K : PySem.W.Frag} {z : RA} {toks : Marks} {H H1 : Hp} {r : Option (Except Vastoa.Fault MS)} {Q : Hp -> Prop} {E : XK} (h : RdRes a K z toks H r Q E) (k : Keep z.M H H1) : RdRes a K z toks H1 r Q E := by
  unfold RdRes at h ⊢
  split
  · exact fun H' z' n' e p R => h H' z' n' e (pass_trans (pass_keep k) p) R
  · exact XWM.from h k
  · exact h
def spStep (a : Ad) (K : PySem.W.Frag) : Sp := fun vs H Q E => ∃ (z : RA) (toks : Marks) (n : Nat) (S : MS), vs = [.ref z.r] /\ RdAt a H z toks n S /\ RM.Fits toks.length (RM.hw toks) S /\ toks.length <= 5000 /\ (∀ s ∈ S.W, okSym s = true) /\ (∀ m ∈ toks, CM.okTok m.tok = true) /\
  RdRes a K z toks H (RM.step S) (Q .non) E
theorem choice_len : ∀ x ∈ allParts, ∀ k ∈ allToks, (choice x k).length <= 8 := by decide +kernel
theorem wV_cons (s : Sym) (W : List Sym) : wV (s :: W) = wV W ++ [.str (symS s)] := by simp [wV]
theorem wV_app (C W : List Sym) : wV W ++ ((C.map symS).map V.str).reverse = wV (C ++ W) := by
  unfold wV
  rw [List.reverse_append, List.map_append]
  simp
theorem wV_len (W : List Sym) : (wV W).length = W.length := by simp [wV]
section
variable {P : Program} {w : World} {K : PySem.W.Frag} {mg : Str -> Option Value} {base : Heap} {f : Addr} {fd : FuncData} {a : Ad}
theorem sc_step : FnScope ["self", "symbol", "chosen"] ["self"] (defScope s_Reader_step) := ⟨rfl, rfl, rfl, by decide +kernel, rfl, by decide +kernel, by decide +kernel⟩
theorem ok_step (F : Fun K "step" "Reader.step" s_Reader_step f fd) (T : Tx P w K mg a) (Gc : FnAt P w K mg base CX0 2 "choose" ["part", "kind"] (spChoose a)) (Ga : MtAt P w K mg base (CXR P w) 5 a.Reader "act" ["self", "action"] (spAct a K))
    (Gr : MtAt P w K mg base (CXR P w) 4 a.Reader "read_token" ["self", "kind"] (spReadTok a K)) : FnOk P w K mg base (CXR P w) 6 f fd ["self"] (spStep a K) := by
  refine F.okR sc_step (fun vs H Q E h => ?_) (fun cdv A outer s H vs Q E hr h => ?_)
  · obtain ⟨z, toks, n, S, rfl, _⟩ := h; rfl
  · obtain ⟨z, toks, n, S, rfl, hR, hF, hlen, hW, hT, res⟩ := h
    have hr2 : Room 2 _ := hr.mono (by decide)
    have hr4 : Room 4 _ := hr.mono (by decide)
    refine ⟨_, pss_cons (ps_set (i := 1) sc_step.nd rfl (Or.inl rfl) (pe_bm0 PySem.F.plainAttrs_list PySem.F.slot_list_pop PySem.F.type_list_pop mt_pop (pe_fld (pv 0) rfl)))
      (pss_one (ps_if (pt_cmp (pc_kin (pv 1) (pe_gl T.g_GRAMMAR)))
        (pss_cons (ps_set (i := 2) sc_step.nd rfl (Or.inl rfl) (pe_callF Gc hr2 pass0 (pa_cons (pv 1) (pa_cons (pe_fld (pe_ix ix_list (pe_fld (pv 0) rfl) (pe_fld (pv 0) rfl) (fun _ _ => rfl)) rfl) pa_nil))))
          (pss_one (ps_expr (pe_bm PySem.F.plainAttrs_list PySem.F.slot_list_extend PySem.F.type_list_extend mt_extend (pe_fld (pv 0) rfl) (pa_cons (pe_rev (pv 2)) pa_nil)))))
        (pss_one (ps_if (pt_val (pe_m1 PySem.F.slot_str_startswith PySem.F.type_str_startswith mt_startswith (pv 1) pe_str)) (pss_one (ps_expr (pe_methF Ga T.c_Reader hr pass_r (pv 0) (pa_cons (pe_slice sl_str (pv 1) (po_some pe_int) po_none) pa_nil))))
          (pss_one (ps_expr (pe_methF Gr T.c_Reader hr4 pass_r (pv 0) (pa_cons (pv 1) pa_nil)))))))), ?_⟩
    obtain ⟨hw1, hw2, hw3⟩ := hF.small hlen
    cases eW : S.W with
    | nil =>
      have : RM.step S = none := by unfold RM.step; rw [eW]
      rw [this] at res; exact res.elim
    | cons y W =>
      have hwl : H z.wl = some (.lst (wV (y :: W))) := by rw [<- eW]; exact hR.wl
      refine ⟨_, rfl, z.r, _, z.dx, _, _, rfl, hR.ins, T.c_Reader, T.n_Reader_waiting, reaF_waiting _ _ _ _ _ _, .inl ⟨rfl, _, SqL.of hwl⟩, z.wl, _, .str (symS y), rfl, rfl, hwl, by rw [wV_cons]; simp, ?_⟩
      rw [show (wV (y :: W)).dropLast = wV W by rw [wV_cons]; simp]
      have R1 := hR.putW W
      have k1 : Keep z.M H (upd H z.wl (.lst (wV W))) := Keep.at_ z.mw
      have res1 := res.on k1
      have hwl1 : (upd H z.wl (.lst (wV W))) z.wl = some (.lst (wV W)) := upd_same
      generalize upd H z.wl (.lst (wV W)) = H1 at R1 k1 res1 hwl1 ⊢
      have hlW : W.length <= 200000 := by rw [eW] at hw1; simp at hw1; omega
      refine ⟨_, rfl, a.GRAMMAR, _, Sum.inr (symS y), rfl, T.d_GRAMMAR, rfl, _, rfl, ?_⟩
      rw [gram_at]
      cases y with
      | p x =>
        rw [if_pos (show symS (.p x) ∈ gramS.map (·.1) from part_key x (mem_parts x))]
        cases hS : S.ts with
        | nil =>
          have : RM.step S = none := by unfold RM.step; rw [eW, hS]
          rw [this] at res; exact res.elim
        | cons m r =>
          have est : RM.step S = some (.ok { S with W := choice x (kd m.tok) ++ W }) := by unfold RM.step; rw [eW, hS]
          rw [est] at res1
          obtain ⟨as, t1, t2⟩ := R1.tks
          obtain ⟨e1, e2⟩ := tok_at_n (hS.symm.trans hR.ts)
          obtain ⟨t, ht, dx, ha, ht1, ht2, _, _⟩ := paired_get t2 e1
          have hm := hT m (List.mem_of_getElem? e1)
          refine iteT ⟨_, rfl, _, rfl, z.r, _, z.dx, _, _, rfl, R1.ins, T.c_Reader, T.n_Reader_tokens, reaF_tokens _ _ _ _ _ _, _, rfl, z.r, _, z.dx, _, _, rfl, R1.ins, T.c_Reader, T.n_Reader_at, reaF_at _ _ _ _ _ _, z.ts, _, _, _, rfl, rfl, SqL.of t1.1, atI_nat (v := V.ref t) (by rw [List.getElem?_map, ht]; rfl), t, _, dx, _, _, rfl, ht1, T.c_Token, T.n_Token_kind, tokF_kind _ _ _, ?_⟩
          refine ⟨x, kd m.tok, by rw [kstr_kd]; rfl, mem_toks hm, fun H2 p s2 hp hp2 => ?_⟩
          have R2 := R1.same s2
          refine ⟨_, rfl, z.r, _, z.dx, _, _, rfl, R2.ins, T.c_Reader, T.n_Reader_waiting, reaF_waiting _ _ _ _ _ _, .inl ⟨rfl, _, SqL.of (s2 _ _ hwl1)⟩, _, rfl, p, _, rfl, SqL.of hp2, fun q hq => ?_⟩
          have s3 := same_new (o := .lst (((choice x (kd m.tok)).map symS).map V.str).reverse) hq
          refine ⟨z.wl, q, _, _, rfl, rfl, s3 _ _ (s2 _ _ hwl1), upd_same, ?_, ?_⟩
          · rw [wV_len, List.length_reverse, List.length_map, List.length_map]
            have hc : (choice x (kd m.tok)).length <= 8 := by
              have := choice_len x (mem_parts x) _ (mem_toks hm)
              exact this
            have : (1000000 : Nat) < sizeLine := by decide
            omega
          · rw [wV_app]
            have R4 := (R2.same s3).putW (choice x (kd m.tok) ++ W)
            exact res1 _ z n rfl (pass_trans (pass_same (s2.trans s3)) (pass_keep (Keep.at_ z.mw))) R4
      | t k =>
        have hk : k ∈ allToks := List.contains_iff_mem.mp (hW (.t k) (by rw [eW]; exact List.mem_cons_self))
        rw [if_neg (show ¬ symS (.t k) ∈ gramS.map (·.1) from tok_key k hk)]
        refine iteF ⟨_, rfl, ⟨_, rfl⟩, _, _, rfl, rfl, _, rfl, ?_⟩
        rw [show Txt.startswith (symS (.t k)) "@" = false from tok_at k hk]
        cases hS : S.ts with
        | nil =>
          have : RM.step S = none := by unfold RM.step; rw [eW, hS]
          rw [this] at res; exact res.elim
        | cons m r =>
          have est : RM.step S = (if kd m.tok = k then some (.ok ⟨r, m, S.lv, W, S.B, S.G⟩) else some (.error ⟨3, m.place⟩)) := by unfold RM.step; rw [eW, hS]
          rw [est] at res1
          obtain ⟨e1, e2⟩ := tok_at_n (hS.symm.trans hR.ts)
          exact iteF ⟨_, rfl, z.r, z.dx, _, rfl, R1.ins, reaF_no_read_token _ _ _ _ _ _, _, rfl, z, toks, n, { S with W := W }, k, m, r, rfl, R1, hk, hT m (List.mem_of_getElem? e1), hS, res1⟩
      | a x =>
        rw [if_neg (show ¬ symS (.a x) ∈ gramS.map (·.1) from act_key x (mem_acts x))]
        obtain ⟨a1, a2, a3⟩ := act_at x (mem_acts x)
        refine iteF ⟨_, rfl, ⟨_, rfl⟩, _, _, rfl, rfl, _, rfl, ?_⟩
        rw [show Txt.startswith (symS (.a x)) (Str.ofString "@") = true from a1]
        have est : RM.step S = RM.stepA x S.ts S.pv S.lv W S.B S.G := by unfold RM.step; rw [eW]
        rw [est] at res1
        refine iteT ⟨_, rfl, z.r, z.dx, _, rfl, R1.ins, reaF_no_act _ _ _ _ _ _, _, rfl, _, rfl, symS (.a x), rfl, Nat.le_of_lt (small1000 a3), ?_⟩
        rw [show cutS (symS (.a x)) (some 1) none = actS x from a2]
        exact ⟨z, toks, n, { S with W := W }, x, rfl, R1, (by show S.B.length <= 1000000; omega), (by show RM.gw S.G <= 500000; omega), res1⟩
end
end RT
end
section
set_option Elab.async false
set_option linter.all false
set_option maxRecDepth 100000
set_option maxHeartbeats 2000000
namespace RT
open PySem PySem.Spec PyProof.Rows L2
open Vastoa (Mark Marks)
open RM (Part Sym choice kd held MS Bg)
def startS (toks : Marks) (pv : Mark) : MS := ⟨toks, pv, 0, [.p .EXPR, .t .fin], [], []⟩
def spReaderInit (a : Ad) : Sp := fun vs H Q E => ∃ (r dx tl : Addr) (as : List Addr) (toks : Marks) (pv : Mark), vs = [.ref r, .ref tl] /\ H r = some (.ins a.Reader dx []) /\ H tl = some (.lst (as.map V.ref)) /\ Paired (TokAt a M0 H) as toks /\ atI toks (-1) = some pv /\
  ∀ H' z, z.r = r -> (∀ b, z.M b -> b = r \/ H b = none) -> (∀ b o, H b = some o -> b ≠ r -> H' b = some o) -> RdAt a H' z toks 0 (startS toks pv) -> Q .non H'
def spDeep (a : Ad) (K : PySem.W.Frag) : Sp := fun vs H Q E => ∃ (t : Addr) (T : Vastoa.Tree), vs = [.ref t] /\ TreeAt a M0 H T t /\ (40 < Vastoa.depth T -> XW K a.Refusal H 6 0 E) /\ (¬ 40 < Vastoa.depth T -> Q .non H)
def spRead (a : Ad) (K : PySem.W.Frag) : Sp := fun vs H Q E => ∃ (ta : Addr) (txt : List Nat), vs = [.ref ta] /\ SqL K H ta (nt txt) /\
  (∀ T, Vastoa.read txt = .ok T -> RM.good T = true -> RM.tw T <= 200000 -> RM.lw T <= 2048 -> ∀ H' t, Same H H' -> TreeAt a M0 H' T t -> Q (.ref t) H') /\ ∀ x, Vastoa.read txt = .error x -> XW K a.Refusal H (x.kind : Int) (x.place : Int) E
def readT (ts : Marks) : Except Vastoa.Fault Vastoa.Tree := (Vastoa.level Vastoa.DEEP ts).bind fun e => (Vastoa.expect .fin e.2).bind fun _ => .ok e.1
theorem read_long {txt : List Nat} (h : 2048 < txt.length) : Vastoa.read txt = .error ⟨1, 0⟩ := by unfold Vastoa.read; rw [if_pos (show Vastoa.MOST < txt.length from h)]
theorem read_bad {txt : List Nat} {x : Vastoa.Fault} (h : ¬ 2048 < txt.length) (e : Vastoa.tokens txt = .error x) : Vastoa.read txt = .error x := by unfold Vastoa.read; rw [if_neg (show ¬ Vastoa.MOST < txt.length from h), e]; rfl
theorem read_toks {txt : List Nat} {ts : Marks} (h : ¬ 2048 < txt.length) (e : Vastoa.tokens txt = .ok ts) : Vastoa.read txt = (readT ts).bind fun t => if 40 < Vastoa.depth t then .error ⟨6, 0⟩ else .ok t := by
  unfold Vastoa.read readT
  rw [if_neg (show ¬ Vastoa.MOST < txt.length from h), e]
  show (Vastoa.level Vastoa.DEEP ts).bind _ = _
  cases Vastoa.level Vastoa.DEEP ts with
  | error x => rfl
  | ok e =>
    show (Vastoa.expect .fin e.2).bind _ = ((Vastoa.expect .fin e.2).bind _).bind _
    cases Vastoa.expect .fin e.2 with
    | error x => rfl
    | ok u => rfl
theorem okW_step {S S' : MS} (h : ∀ s ∈ S.W, okSym s = true) (ht : ∀ m ∈ S.ts, CM.okTok m.tok = true) (e : RM.step S = some (.ok S')) : ∀ s ∈ S'.W, okSym s = true := by
  obtain ⟨ts, pv, lv, W, B, G⟩ := S
  cases W with
  | nil => cases e
  | cons y W =>
    have hW : ∀ s ∈ W, okSym s = true := fun s hs => h s (List.mem_cons_of_mem _ hs)
    cases y with
    | p x =>
      cases ts with
      | nil => cases e
      | cons m r =>
        cases e
        intro s hs
        rcases List.mem_append.mp hs with hs | hs
        · exact List.all_eq_true.mp (choice_ok x (mem_parts x) _ (mem_toks (ht m List.mem_cons_self))) s hs
        · exact hW s hs
    | t k =>
      cases ts with
      | nil => cases e
      | cons m r =>
        have e : (if kd m.tok = k then some (.ok ⟨r, m, lv, W, B, G⟩) else some (.error ⟨3, m.place⟩) : Option (Except Vastoa.Fault MS)) = some (Except.ok S') := e
        split at e
        · cases e; exact hW
        · cases e
    | a x =>
      have e : RM.stepA x ts pv lv W B G = some (.ok S') := e
      unfold RM.stepA at e
      split at e
      · cases e; exact hW
      · split at e
        · cases e
        · cases e; exact hW
      · split at e
        · cases e
        · cases e; exact hW
      · split at e
        · cases e
        · split at e
          · cases e
          · cases e; exact hW
      · split at e
        · cases e
        · split at e
          · cases e
          · cases e; exact hW
      · split at e
        · cases e
        · cases e; exact hW
      · split at e
        · cases e
        · split at e
          · cases e; exact hW
          · cases e
theorem last_at {α : Type} {l : List α} (h : l ≠ []) : ∃ y, atI l (-1) = some y := by
  obtain ⟨l', y, rfl⟩ : ∃ l' y, l = l' ++ [y] := ⟨l.dropLast, l.getLast h, (List.dropLast_concat_getLast h).symm⟩
  exact ⟨y, atI_last _ _⟩
section
variable {P : Program} {w : World} {K : PySem.W.Frag} {mg : Str -> Option Value} {base : Heap} {f : Addr} {fd : FuncData} {a : Ad}
theorem sc_Reader_init : FnScope ["self", "tokens"] ["self", "tokens"] (defScope s_Reader_init) := ⟨rfl, rfl, rfl, by decide +kernel, rfl, by decide +kernel, by decide +kernel⟩
theorem ok_Reader_init (F : Fun K "__init__" "Reader.__init__" s_Reader_init f fd) (T : Tx P w K mg a) : FnOk P w K mg base CX0 1 f fd ["self", "tokens"] (spReaderInit a) := by
  refine F.ok sc_Reader_init (fun vs H Q E h => ?_) (fun cdv A outer s H vs Q E hr h => ?_)
  · obtain ⟨r, dx, tl, as, toks, pv, rfl, _⟩ := h; rfl
  · obtain ⟨r, dx, tl, as, toks, pm, rfl, hc, htl, hts, hpv, k⟩ := h
    refine ⟨_, pss_cons (ps_fld (pv 0) (pv 1) rfl) (pss_cons (ps_fld (pv 0) pe_int rfl) (pss_cons (ps_fld (pv 0) pe_int rfl) (pss_cons (ps_fld (pv 0) (pe_lst (pa_cons pe_str (pa_cons pe_str pa_nil))) rfl) (pss_cons (ps_fld (pv 0) (pe_lst pa_nil) rfl) (pss_one (ps_fld (pv 0) (pe_lst pa_nil) rfl)))))), ?_⟩
    refine ⟨_, rfl, _, rfl, r, _, dx, _, rfl, hc, T.c_Reader, T.n_Reader_tokens, (by show 0 < 1000; decide), ?_⟩
    refine ⟨_, rfl, r, _, dx, _, rfl, upd_same, T.c_Reader, T.n_Reader_at, (by show 1 < 1000; decide), ?_⟩
    refine ⟨_, rfl, r, _, dx, _, rfl, upd_same, T.c_Reader, T.n_Reader_level, (by show 2 < 1000; decide), ?_⟩
    rw [upd_upd, upd_upd]
    have k1 : ∀ b o, H b = some o -> b ≠ r -> (upd H r (.ins a.Reader dx (putF "level" (.int 0) (putF "at" (.int 0) (putF "tokens" (.ref tl) []))))) b = some o := fun b o e n => by rw [upd_ne n]; exact e
    have f1 : ∀ b, (upd H r (.ins a.Reader dx (putF "level" (.int 0) (putF "at" (.int 0) (putF "tokens" (.ref tl) []))))) b = none -> H b = none /\ b ≠ r := fun b e => by
      have : b ≠ r := fun y => by rw [y, upd_same] at e; cases e
      rw [upd_ne this] at e; exact ⟨e, this⟩
    have r1 : (upd H r (.ins a.Reader dx (putF "level" (.int 0) (putF "at" (.int 0) (putF "tokens" (.ref tl) []))))) r = some _ := upd_same
    generalize upd H r (.ins a.Reader dx (putF "level" (.int 0) (putF "at" (.int 0) (putF "tokens" (.ref tl) [])))) = H1 at k1 f1 r1 ⊢
    refine ⟨(by show 2 <= sizeLine; decide), fun wl hwl => ?_⟩
    obtain ⟨w1, w2⟩ := f1 wl hwl
    refine ⟨_, rfl, r, _, dx, _, rfl, (upd_ne (Ne.symm w2)).trans r1, T.c_Reader, T.n_Reader_waiting, (by show 3 < 1000; decide), ?_⟩
    refine ⟨Nat.zero_le _, fun bl hbl => ?_⟩
    have b2 : bl ≠ r := fun y => by rw [y, upd_same] at hbl; cases hbl
    rw [upd_ne b2] at hbl
    have b3 : bl ≠ wl := fun y => by rw [y, upd_same] at hbl; cases hbl
    rw [upd_ne b3] at hbl
    obtain ⟨b1, _⟩ := f1 bl hbl
    refine ⟨_, rfl, r, _, dx, _, rfl, (upd_ne (Ne.symm b2)).trans upd_same, T.c_Reader, T.n_Reader_built, (by show 4 < 1000; decide), ?_⟩
    refine ⟨Nat.zero_le _, fun gl hgl => ?_⟩
    have g2 : gl ≠ r := fun y => by rw [y, upd_same] at hgl; cases hgl
    rw [upd_ne g2] at hgl
    have g4 : gl ≠ bl := fun y => by rw [y, upd_same] at hgl; cases hgl
    rw [upd_ne g4, upd_ne g2] at hgl
    have g3 : gl ≠ wl := fun y => by rw [y, upd_same] at hgl; cases hgl
    rw [upd_ne g3] at hgl
    obtain ⟨g1, _⟩ := f1 gl hgl
    refine ⟨_, rfl, r, _, dx, _, rfl, (upd_ne (Ne.symm g2)).trans upd_same, T.c_Reader, T.n_Reader_begun, (by show 5 < 1000; decide), ?_⟩
    have inM : ∀ b, (⟨r, dx, tl, wl, bl, gl, []⟩ : RA).M b -> b = r \/ H b = none := fun b hb => by
      rcases hb with hb | hb
      · exact .inl hb
      · have hb : b ∈ [wl, bl, gl] := hb
        simp only [List.mem_cons, List.not_mem_nil, or_false] at hb
        rcases hb with rfl | rfl | rfl
        · exact .inr w1
        · exact .inr b1
        · exact .inr g1
    have keep : ∀ b o, H b = some o -> b ≠ r -> upd (upd (upd (upd (upd (upd H1 wl (.lst [.str "end", .str "EXPR"])) r (.ins a.Reader dx (putF "waiting" (.ref wl) (putF "level" (.int 0) (putF "at" (.int 0) (putF "tokens" (.ref tl) [])))))) bl (.lst [])) r (.ins a.Reader dx (putF "built" (.ref bl) (putF "waiting" (.ref wl) (putF "level" (.int 0) (putF "at" (.int 0) (putF "tokens" (.ref tl) []))))))) gl (.lst [])) r (.ins a.Reader dx (reaF (.ref tl) (.int 0) (.int 0) (.ref wl) (.ref bl) (.ref gl))) b = some o := fun b o e n => by
      rw [upd_ne n, upd_ne (ne_of_none e g1), upd_ne n, upd_ne (ne_of_none e b1), upd_ne n, upd_ne (ne_of_none e w1)]; exact k1 b o e n
    have pass : ∀ b o, H b = some o -> (∀ d, o ≠ .ins a.Reader d []) -> ¬ (⟨r, dx, tl, wl, bl, gl, []⟩ : RA).M b := fun b o e ni y => by
      rcases inM b y with y | y
      · rw [y, hc] at e; cases e; exact ni _ rfl
      · rw [y] at e; cases e
    have ner : ∀ b o, H b = some o -> (∀ d, o ≠ .ins a.Reader d []) -> b ≠ r := fun b o e ni y => pass b o e ni (.inl y)
    refine k _ ⟨r, dx, tl, wl, bl, gl, []⟩ rfl inM keep ⟨upd_same, ⟨as, ⟨keep _ _ htl (ner _ _ htl fun d q => by cases q), pass _ _ htl fun d q => by cases q⟩, ?_⟩, ?_, ⟨[], ?_, ?_⟩, ?_, .nil, ?_, rfl, hpv⟩
    · refine paired_imp (fun t m q => ?_) hts
      obtain ⟨d, ha, q1, q2, _, _⟩ := q
      have i1 : ∀ d', HO.ins a.Token d (tokF (.str (kstr m.tok)) (.int m.place) (.ref ha)) ≠ .ins a.Reader d' [] := fun d' q => by injection q with _ _ q; cases q
      exact ⟨d, ha, keep _ _ q1 (ner _ _ q1 i1), keep _ _ q2 (ner _ _ q2 fun d q => by cases q), pass _ _ q1 i1, pass _ _ q2 fun d q => by cases q⟩
    · show upd _ r _ wl = _
      rw [upd_ne w2, upd_ne (Ne.symm g3), upd_ne w2, upd_ne (Ne.symm b3), upd_ne w2, upd_same]; rfl
    · show upd _ r _ bl = _
      rw [upd_ne b2, upd_ne (Ne.symm g4), upd_ne b2, upd_same]; rfl
    · unfold startS TreesAt; rfl
    · show upd _ r _ gl = _
      rw [upd_ne g2, upd_same]; rfl
    · show [wl, bl, gl].Nodup
      exact List.nodup_cons.mpr ⟨by simp only [List.mem_cons, List.not_mem_nil, or_false, not_or]; exact ⟨Ne.symm b3, Ne.symm g3⟩, List.nodup_cons.mpr ⟨by simp only [List.mem_cons, List.not_mem_nil, or_false]; exact Ne.symm g4, List.nodup_cons.mpr ⟨by simp, List.nodup_nil⟩⟩⟩
theorem sc_refuse_deep : FnScope ["tree"] ["tree"] (defScope s_refuse_deep) := ⟨rfl, rfl, rfl, by decide +kernel, rfl, by decide +kernel, by decide +kernel⟩
theorem ok_refuse_deep (F : Fun K "refuse_deep" "refuse_deep" s_refuse_deep f fd) (T : Tx P w K mg a) (Gx : XMkAt P w K mg base 2 a.TreeTooDeep "TreeTooDeep" ["self"] (spX a.TreeTooDeep 6 false)) : FnOk P w K mg base (CXR P w) 4 f fd ["tree"] (spDeep a K) := by
  refine F.okR sc_refuse_deep (fun vs H Q E h => ?_) (fun cdv A outer s H vs Q E hr h => ?_)
  · obtain ⟨t, U, rfl, _⟩ := h; rfl
  · obtain ⟨t, U, rfl, hU, kx, ko⟩ := h
    refine ⟨_, pss_one (ps_if (pt_cmpR op_gt (pe_fld (pv 0) rfl) (pe_gl T.g_MOST_DEPTH) (nomark _)) (pss_one (ps_raiseF0 Gx hr)) pss_nil), ?_⟩
    obtain ⟨dx, x, y, z, ht⟩ := hU.depth
    refine ⟨_, rfl, t, _, dx, _, _, rfl, ht, T.c_Node, T.n_Node_depth, nodF_depth _ _ _ _, _, _, rfl, rfl, _, rfl, ite2 (fun e => ?_) fun e => ?_⟩
    · have e : 40 < Vastoa.depth U := by have := of_decide_eq_true e; omega
      exact raise_0 T.x_TreeTooDeep T.u_TreeTooDeep T.n_TreeTooDeep_number T.n_TreeTooDeep_place (kx e)
    · exact ko fun y => e (decide_eq_true (by omega))
end
end RT
end
section
set_option Elab.async false
set_option linter.all false
set_option maxRecDepth 100000
set_option maxHeartbeats 2000000
namespace RT
open PySem PySem.Spec PyProof.Rows L2
open Vastoa (Mark Marks)
open RM (Part Sym choice kd held MS Bg)
theorem ok_start : ∀ s ∈ ([.p .EXPR, .t .fin] : List Sym), okSym s = true := by decide +kernel
section
variable {P : Program} {w : World} {K : PySem.W.Frag} {mg : Str -> Option Value} {base : Heap} {f : Addr} {fd : FuncData} {a : Ad}
theorem sc_read : FnScope ["text", "reader", "tree"] ["text"] (defScope s_read) := ⟨rfl, rfl, rfl, by decide +kernel, rfl, by decide +kernel, by decide +kernel⟩
theorem ok_read (F : Fun K "read" "read" s_read f fd) (T : Tx P w K mg a) (Gx : XMkAt P w K mg base 2 a.TextTooLong "TextTooLong" ["self"] (spX a.TextTooLong 1 false)) (Gc : FnAt P w K mg base (CXR P w) 7 "cut" ["text"] (spCut a K))
    (Gi : MkAt P w K mg base CX0 1 a.Reader "Reader" ["self", "tokens"] (spReaderInit a)) (Gs : MtAt P w K mg base (CXR P w) 6 a.Reader "step" ["self"] (spStep a K)) (Gd : FnAt P w K mg base (CXR P w) 4 "refuse_deep" ["tree"] (spDeep a K)) :
    FnOk P w K mg base (CXR P w) 8 f fd ["text"] (spRead a K) := by
  refine F.okR sc_read (fun vs H Q E h => ?_) (fun cdv A outer s H vs Q E hr h => ?_)
  · obtain ⟨ta, txt, rfl, _⟩ := h; rfl
  · obtain ⟨ta, txt, rfl, ht, ko, kx⟩ := h
    have hr2 : Room 2 _ := hr.mono (by decide)
    have hr3 : Room 3 _ := hr.mono (by decide)
    have hr4 : Room 4 _ := hr.mono (by decide)
    have hr6 : Room 6 _ := hr.mono (by decide)
    refine ⟨_, pss_cons (ps_if (pt_cmpR op_gt (pe_callB call_len_seq (by rfl) T.b_len PySem.boot_len (pa_cons (pv 0) pa_nil)) (pe_gl T.g_MOST_TEXT_BYTES) (nomark _)) (pss_one (ps_raiseF0 Gx hr3)) pss_nil)
      (pss_cons (ps_set (i := 1) sc_read.nd rfl (Or.inl rfl) (pe_makeF Gi hr2 pass0 (pa_cons (pe_callF Gc hr pass_r (pa_cons (pv 0) pa_nil)) pa_nil)))
      (pss_cons (ps_while PassesOwn.leaving (pt_truth (pe_fld (pv 1) rfl) (by intro _; rfl)) (pss_one (ps_expr (pe_methF0 Gs T.c_Reader hr6 pass_r (pv 1)))))
      (pss_cons (ps_set (i := 2) sc_read.nd rfl (Or.inl rfl) (pe_ix ix_list (pe_fld (pv 1) rfl) pe_int (fun _ _ => rfl)))
      (pss_cons (ps_expr (pe_callF Gd hr4 pass_r (pa_cons (pv 2) pa_nil)))
      (pss_one (ps_ret (pv 2))))))), ?_⟩
    refine ⟨_, rfl, ta, _, rfl, .inl ht, _, _, rfl, rfl, _, rfl, ite2 (fun hl => ?_) fun hl => ?_⟩
    · have hl : 2048 < txt.length := by have := of_decide_eq_true hl; rw [nt_len] at this; omega
      exact raise_0 T.x_TextTooLong T.u_TextTooLong T.n_TextTooLong_number T.n_TextTooLong_place (kx _ (read_long hl))
    have hl : ¬ 2048 < txt.length := fun y => hl (decide_eq_true (by rw [nt_len]; omega))
    refine ⟨_, rfl, ta, txt, rfl, ht, by omega, fun H1 tl as toks s1 etk ltk htl hts => ?_, fun p hp => kx _ (read_bad hl hp)⟩
    obtain ⟨hEnds, hok⟩ := CM.fine_tokens etk
    have hrt := read_toks hl etk
    have hne : toks ≠ [] := by
      obtain ⟨pre, q, e, _⟩ := hEnds
      rw [e]; simp
    obtain ⟨pm, hpm⟩ := last_at hne
    intro r dx hrn hdx hneq
    have s2 : Same H1 (upd (upd H1 dx (.own r)) r (.ins a.Reader dx [])) := fun b o e => by rw [upd_ne (ne_of_none e hrn), upd_ne (ne_of_none e hdx)]; exact e
    refine ⟨r, dx, tl, as, toks, pm, rfl, upd_same, s2 _ _ htl, paired_imp (fun t m q => q.keep (Keep.of s2)) hts, hpm, fun H2 z ez inM k2 R2 => ⟨rfl, ?_⟩⟩
    have s3 : Same H1 H2 := fun b o e => k2 b o (s2 b o e) (ne_of_none e hrn)
    have out : ∀ b o, H1 b = some o -> ¬ z.M b := fun b o e y => by
      rcases inM b y with y | y
      · rw [y, hrn] at e; cases e
      · rw [s2 b o e] at y; cases y
    obtain ⟨cnt, hrun⟩ := (RM.machine (Q := fun S => ∃ e u pv', S = ⟨u, pv', 0, [], [e], []⟩ /\ readT toks = .ok e /\ RM.good e = true) (E := fun y => readT toks = .error y) (ts := toks) (pv := pm) hEnds (fun e u pv' h1 h2 => ⟨e, u, pv', rfl, h1, h2⟩) (fun y h => h)).count
    refine ⟨fun m σ H' => ∃ (z' : RA) (n : Nat) (S : MS), σ = [some (.ref ta), some (.ref z'.r), none] /\ RdAt a H' z' toks n S /\ RM.Fits toks.length (RM.hw toks) S /\ (∀ s ∈ S.W, okSym s = true) /\ (∀ b o, H1 b = some o -> H' b = some o /\ ¬ z'.M b) /\
      RM.RunN (fun S => ∃ e u pv', S = ⟨u, pv', 0, [], [e], []⟩ /\ readT toks = .ok e /\ RM.good e = true) (fun y => readT toks = .error y) m S,
      ⟨cnt, z, 0, startS toks pm, by rw [ez]; rfl, R2, RM.fits_start toks pm, ok_start, fun b o e => ⟨s3 b o e, out b o e⟩, hrun⟩, ?_⟩
    rintro m σ H3 ⟨z3, n, S, rfl, R3, hF, hW, fr, run⟩
    refine ⟨_, rfl, z3.r, _, z3.dx, _, _, rfl, R3.ins, T.c_Reader, T.n_Reader_waiting, reaF_waiting _ _ _ _ _ _, _, .inl ⟨_, SqL.of R3.wl, rfl⟩, ?_⟩
    have hts' : ∀ m ∈ S.ts, CM.okTok m.tok = true := fun m hm => hok m (by rw [R3.ts] at hm; exact List.mem_of_mem_drop hm)
    have ne : ∀ r', RM.step S = some r' -> (!(S.W.reverse.map fun s => V.str (symS s)).isEmpty) = true := fun r' e => by
      cases hw : S.W with
      | nil => unfold RM.step at e; rw [hw] at e; cases e
      | cons y W => simp
    cases run with
    | done q =>
      obtain ⟨e, u, pv', rfl, e1, e2⟩ := q
      refine iteF ?_
      obtain ⟨bs, b1, b2⟩ := R3.bl
      have b2 : TreesAt a z3.M H3 [e] bs := b2
      unfold TreesAt at b2
      obtain ⟨t, r', rfl, hT, h0⟩ := b2
      unfold TreesAt at h0
      subst h0
      refine ⟨_, rfl, z3.r, _, z3.dx, _, _, rfl, R3.ins, T.c_Reader, T.n_Reader_built, reaF_built _ _ _ _ _ _, z3.bl, _, _, _, rfl, rfl, SqL.of b1, atI_nat (j := 0) (v := V.ref t) rfl, ?_⟩
      have hT0 : TreeAt a M0 H3 e t := TreeAt.pass (fun b o e _ => ⟨e, id⟩) _ _ hT
      rw [e1] at hrt
      refine ⟨_, rfl, t, e, rfl, hT0, fun hd => ?_, fun hd => ?_⟩
      · have : Vastoa.read txt = .error ⟨6, 0⟩ := by rw [hrt]; show (if 40 < Vastoa.depth e then _ else _) = _; rw [if_pos hd]
        exact fun C dx' H' s' x => kx _ this C dx' H' ((s1.trans fun b o e => (fr b o e).1).trans s') x
      · have : Vastoa.read txt = .ok e := by rw [hrt]; show (if 40 < Vastoa.depth e then _ else _) = _; rw [if_neg hd]
        have hb := hF.tree (by omega)
        have hh := CM.held_tokens etk
        have e3 : RM.tw e <= 200000 := by have := hb.1; simp only [RM.twOf] at this; omega
        have e4 : RM.lw e <= 2048 := by have := hb.2; simp only [RM.lwOf] at this; omega
        exact ⟨_, rfl, ko e this e2 e3 e4 H3 t (s1.trans fun b o e => (fr b o e).1) hT0⟩
    | @next k S0 S' e run' =>
      rw [ne _ e]
      refine iteT ⟨_, fun σ' H' q => q, ?_⟩
      refine ⟨_, rfl, z3.r, z3.dx, _, rfl, R3.ins, reaF_no_step _ _ _ _ _ _, z3, toks, n, S, rfl, R3, hF, by omega, hW, hok, ?_⟩
      rw [e]
      exact fun H' z' n' er p R => ⟨k, Nat.lt_succ_self _, z', n', S', by rw [er], R, hF.step e, okW_step hW hts' e, fun b o eb => p b o (fr b o eb).1 (fr b o eb).2, run'⟩
    | @fail k S0 x e hx =>
      rw [ne _ e]
      refine iteT ⟨_, fun σ' H' q => q, ?_⟩
      refine ⟨_, rfl, z3.r, z3.dx, _, rfl, R3.ins, reaF_no_step _ _ _ _ _ _, z3, toks, n, S, rfl, R3, hF, by omega, hW, hok, ?_⟩
      rw [e]
      rw [hx] at hrt
      exact fun C dx' H' k' x' => kx x hrt C dx' H' (s1.trans fun b o eb => k' b o (fr b o eb).1 (fr b o eb).2) x'
end
end RT
end
section
set_option Elab.async false
set_option linter.all false
set_option maxRecDepth 100000
set_option maxHeartbeats 2000000
namespace L2
open PySem PySem.Spec PyProof.Rows
def strsB : List Str -> List Value -> Bool
  | [], [] => true
  | x :: xs, .str y _ :: us => x == y && strsB xs us
  | _, _ => false
theorem strs_vals : ∀ {xs : List Str} {us : List Value}, strsB xs us = true -> Vals (xs.map V.str) us
  | [], [], _ => .nil
  | x :: xs, .str y t :: us, h => by
    simp only [strsB, Bool.and_eq_true, beq_iff_eq] at h
    obtain ⟨rfl, h⟩ := h
    exact .cons ⟨t, rfl⟩ (strs_vals h)
def ktupB (K : PySem.W.Frag) (a : Addr) (xs : List Str) : Bool := match K.lookup a with
  | some ⟨.type ty, _, .seq its _, _⟩ => ty == "tuple" && decide (its.size <= 1000) && strsB xs its.toList
  | _ => false
theorem ktup_of {K : PySem.W.Frag} {a : Addr} {xs : List Str} (h : ktupB K a xs = true) : KTup K a (xs.map V.str) := by
  unfold ktupB at h
  split at h
  · rename_i ty _ its n sl e
    simp only [Bool.and_eq_true, beq_iff_eq, decide_eq_true_eq] at h
    obtain ⟨⟨rfl, h2⟩, h3⟩ := h
    exact ⟨_, its, n, e, rfl, rfl, Nat.le_of_lt (small1000 h2), strs_vals h3⟩
  · cases h
def subKB (K : PySem.W.Frag) (C S : Addr) : Bool := (PySem.W.clsIn K C).any fun cd => cd.mro.contains (.ref S)
theorem sub_of {K : PySem.W.Frag} {C S : Addr} (h : subKB K C S = true) : subB K C S := by
  unfold subKB at h
  cases e : PySem.W.clsIn K C with
  | none => rw [e] at h; cases h
  | some cd => rw [e] at h; exact ⟨cd, e, h⟩
def EntOk (w : World) (kv : Key × V) (e : DictEntry) : Prop := e.hash = keyH w kv.1 /\ keyIs kv.1 e.key = true /\ RelV kv.2 e.val
theorem kdict_of {P : Program} {w : World} {K : PySem.W.Frag} {a : Addr} {es : Array DictEntry} {ep : Nat} {kvs : List (Key × V)} (lk : K.lookup a = some ⟨.type "dict", none, .dict es ep, #[]⟩) (ha : (a == sysModules) = false) (h : Paired (EntOk w) kvs es.toList) (nd : (kvs.map (·.1)).Nodup) :
    KDict P w K a kvs := by
  have key : ∀ {l : List (Key × V)} {m : List DictEntry}, Paired (EntOk w) l m -> ∃ vs : List (Key × Value), KV l vs /\ Pairs (mixKind P w) m vs /\ vs.map (·.1) = l.map (·.1) /\ ∀ e ∈ m, ∃ k, keyIs k e.key = true /\ e.hash = keyH w k := by
    intro l m q
    induction q with
    | nil => exact ⟨[], .nil, .nil, rfl, fun e he => by cases he⟩
    | @cons kv e l m q t ih =>
      obtain ⟨vs, h1, h2, h3, h4⟩ := ih
      obtain ⟨q1, q2, q3⟩ := q
      refine ⟨(kv.1, e.val) :: vs, .cons ⟨rfl, q3⟩ h1, .cons q2 rfl h2, by rw [List.map_cons, List.map_cons, h3], fun e' he => ?_⟩
      rcases List.mem_cons.mp he with rfl | he
      · exact ⟨kv.1, q2, q1⟩
      · exact h4 e' he
  obtain ⟨vs, h1, h2, h3, h4⟩ := key h
  refine ⟨ha, vs, h1, fun hp hk => ⟨_, es, ep, hk _ _ lk, ⟨rfl, rfl, rfl⟩, rfl, fun e he => h4 e (Array.mem_toList_iff.mpr he), h2, by rw [h3]; exact nd⟩⟩
theorem glv_of {K : PySem.W.Frag} {h : Heap} {mg : Str -> Option Value} {n : Str} {u : Value} {v : V} (X : K.In h) (G : h.Ns mainGlobals mg) (e : PySem.W.nsIn K mainGlobals n = some (some u)) (r : RelV v u) : GlV mg n v := ⟨u, PySem.W.mg_of X G e, r⟩
theorem glv_int {K : PySem.W.Frag} {h : Heap} {mg : Str -> Option Value} {n : Str} {i : Int} {t : Tok} (X : K.In h) (G : h.Ns mainGlobals mg) (e : PySem.W.nsIn K mainGlobals n = some (some (.int i t))) : GlV mg n (.int i) := glv_of X G e ⟨t, rfl⟩
theorem glv_ref {K : PySem.W.Frag} {h : Heap} {mg : Str -> Option Value} {n : Str} {a : Addr} (X : K.In h) (G : h.Ns mainGlobals mg) (e : PySem.W.nsIn K mainGlobals n = some (some (.ref a))) : GlV mg n (.ref a) := glv_of X G e rfl
def grOf (es : Array DictEntry) (x : Str) : Addr := match es.toList.find? fun e => keyIs (Sum.inr x) e.key with
  | some ⟨_, _, .ref a⟩ => a
  | _ => 0
end L2
namespace RT
open PySem PySem.Spec PyProof.Rows L2
theorem text_nt (l : List Int) (h : NeutralIO.bytes l = true) : nt (VastoaNeutral.text l) = l.map V.int := by
  unfold nt VastoaNeutral.text
  rw [List.map_map]
  refine List.map_congr_left fun x hx => ?_
  have := List.all_eq_true.mp h x hx
  simp only [Bool.and_eq_true, decide_eq_true_eq] at this
  show V.int ((x.toNat : Nat) : Int) = V.int x
  rw [Int.toNat_of_nonneg this.1]
end RT
end
section
set_option Elab.async false
set_option linter.all false
set_option maxRecDepth 100000
set_option maxHeartbeats 2000000
namespace RT
open PySem PySem.Spec PyProof.Rows L2
abbrev VT := Vastoa.Tree
mutual
def pre : VT -> List VT
  | .node k ls l => .node k ls l :: preOf l
def preOf : List VT -> List VT
  | [] => []
  | t :: r => pre t ++ preOf r
end
theorem preOf_append : ∀ a b : List VT, preOf (a ++ b) = preOf a ++ preOf b
  | [], b => by simp [preOf]
  | t :: r, b => by simp only [List.cons_append, preOf, preOf_append r b, List.append_assoc]
def rowOf : VT -> List Nat
  | .node k ls l => k.number :: ls.length :: (ls.flatMap (fun x => x.length :: x) ++ [l.length])
mutual
theorem rows_pre : ∀ T : VT, Vastoa.rows T = (pre T).flatMap rowOf
  | .node k ls l => by
    unfold Vastoa.rows pre
    rw [List.flatMap_cons, rowsOf_pre l]
    simp [rowOf]
theorem rowsOf_pre : ∀ l : List VT, Vastoa.rowsOf l = (preOf l).flatMap rowOf
  | [] => by unfold Vastoa.rowsOf preOf; rfl
  | t :: r => by unfold Vastoa.rowsOf preOf; rw [List.flatMap_append, rows_pre t, rowsOf_pre r]
end
theorem flat_len : ∀ ls : List (List Nat), (ls.flatMap fun x => x.length :: x).length = ls.length + (ls.map List.length).sum
  | [] => rfl
  | x :: r => by rw [List.flatMap_cons, List.length_append, flat_len r]; simp; omega
mutual
theorem pre_tw : ∀ T : VT, (pre T).length <= RM.tw T
  | .node k ls l => by have := preOf_tw l; unfold pre RM.tw; rw [List.length_cons]; omega
theorem preOf_tw : ∀ l : List VT, (preOf l).length <= RM.twOf l
  | [] => by unfold preOf; exact Nat.zero_le _
  | t :: r => by have := pre_tw t; have := preOf_tw r; unfold preOf RM.twOf; rw [List.length_append]; omega
end
mutual
theorem rows_len : ∀ T : VT, (Vastoa.rows T).length <= 3 * RM.tw T + RM.lw T
  | .node k ls l => by
    have := rowsOf_len l
    unfold Vastoa.rows RM.tw RM.lw
    simp only [List.length_cons, List.length_append, flat_len]
    omega
theorem rowsOf_len : ∀ l : List VT, (Vastoa.rowsOf l).length <= 3 * RM.twOf l + RM.lwOf l
  | [] => by unfold Vastoa.rowsOf; exact Nat.zero_le _
  | t :: r => by have := rows_len t; have := rowsOf_len r; unfold Vastoa.rowsOf RM.twOf RM.lwOf; rw [List.length_append]; omega
end
theorem trees_app {a : Ad} {M : Addr -> Prop} {H : Hp} : ∀ {l1 l2 : List VT} {k1 k2 : List Addr}, TreesAt a M H l1 k1 -> TreesAt a M H l2 k2 -> TreesAt a M H (l1 ++ l2) (k1 ++ k2)
  | [], l2, k1, k2, h1, h2 => by unfold TreesAt at h1; subst h1; exact h2
  | t :: l1, l2, k1, k2, h1, h2 => by
    unfold TreesAt at h1
    obtain ⟨k, r, rfl, h, h1⟩ := h1
    show TreesAt a M H (t :: (l1 ++ l2)) (k :: (r ++ k2))
    unfold TreesAt
    exact ⟨k, _, rfl, h, trees_app h1 h2⟩
def spNodes (a : Ad) : Sp := fun vs H Q E => ∃ (t : Addr) (T : VT) (M : Addr -> Prop), vs = [.ref t] /\ TreeAt a M H T t /\ RM.tw T <= 200000 /\ ∀ H' p ks, Same H H' -> H p = none -> H' p = some (.lst (ks.map V.ref)) -> TreesAt a M H (pre T) ks -> Q (.ref p) H'
section
variable {P : Program} {w : World} {K : PySem.W.Frag} {mg : Str -> Option Value} {base : Heap} {f : Addr} {fd : FuncData} {a : Ad}
theorem sc_nodes_of : FnScope ["tree", "nodes", "waiting", "node"] ["tree"] (defScope s_nodes_of) := ⟨rfl, rfl, rfl, by decide +kernel, rfl, by decide +kernel, by decide +kernel⟩
theorem ok_nodes_of (F : Fun K "nodes_of" "nodes_of" s_nodes_of f fd) (T : Tx P w K mg a) : FnOk P w K mg base CX0 1 f fd ["tree"] (spNodes a) := by
  refine F.ok sc_nodes_of (fun vs H Q E h => ?_) (fun cdv A outer s H vs Q E hr h => ?_)
  · obtain ⟨t, U, M, rfl, _⟩ := h; rfl
  · obtain ⟨t, U, M, rfl, hU, hw, k⟩ := h
    refine ⟨_, pss_cons (ps_set (i := 1) sc_nodes_of.nd rfl (Or.inl rfl) (pe_lst pa_nil))
      (pss_cons (ps_set (i := 2) sc_nodes_of.nd rfl (Or.inl rfl) (pe_lst (pa_cons (pv 0) pa_nil)))
      (pss_cons (ps_while PassesOwn.never (pt_truth (pv 2) (by intro _; rfl))
        (pss_cons (ps_set (i := 3) sc_nodes_of.nd rfl (Or.inl rfl) (pe_bm0 PySem.F.plainAttrs_list PySem.F.slot_list_pop PySem.F.type_list_pop mt_pop (pv 2)))
        (pss_cons (ps_expr (pe_bm PySem.F.plainAttrs_list PySem.F.slot_list_append PySem.F.type_list_append mt_append (pv 1) (pa_cons (pv 3) pa_nil)))
        (pss_one (ps_expr (pe_bm PySem.F.plainAttrs_list PySem.F.slot_list_extend PySem.F.type_list_extend mt_extend (pv 2) (pa_cons (pe_rev (pe_fld (pv 3) rfl)) pa_nil)))))))
      (pss_one (ps_ret (pv 1))))), ?_⟩
    refine ⟨Nat.zero_le _, fun nl hnl => ?_⟩
    refine ⟨_, rfl, (by show 1 <= sizeLine; decide), fun wl hwl => ?_⟩
    have wn : wl ≠ nl := fun e => by rw [e, upd_same] at hwl; cases hwl
    rw [upd_ne wn] at hwl
    have hp := pre_tw U
    refine ⟨fun m σ H' => ∃ (v : Option V) (D W : List VT) (da wa : List Addr), σ = [some (.ref t), some (.ref nl), some (.ref wl), v] /\ Same H H' /\ H' nl = some (.lst (da.map V.ref)) /\ H' wl = some (.lst (wa.reverse.map V.ref)) /\ TreesAt a M H D da /\ TreesAt a M H W wa /\ pre U = D ++ preOf W /\ (preOf W).length = m,
      ⟨_, none, [], [U], [], [t], rfl, fun b o e => ?_, ?_, upd_same, ?_, ?_, ?_, rfl⟩, ?_⟩
    · rw [upd_ne (ne_of_none e hwl), upd_ne (ne_of_none e hnl)]; exact e
    · rw [upd_ne (Ne.symm wn), upd_same]; rfl
    · unfold TreesAt; rfl
    · unfold TreesAt; exact ⟨t, [], rfl, hU, by unfold TreesAt; rfl⟩
    · simp [preOf]
    rintro m σ H1 ⟨v, D, W, da, wa, rfl, s1, hn1, hw1, tD, tW, eU, rfl⟩
    have hlen : D.length + (preOf W).length <= 200000 := by rw [eU, List.length_append] at hp; omega
    have lD : da.length = D.length := Paired.length (trees_paired.mp tD)
    have lW : wa.length = W.length := Paired.length (trees_paired.mp tW)
    refine ⟨_, rfl, _, .inl ⟨_, SqL.of hw1, rfl⟩, ?_⟩
    cases W with
    | nil =>
      have : wa = [] := by cases wa with | nil => rfl | cons _ _ => cases lW
      subst this
      refine iteF ⟨_, rfl, ?_⟩
      rw [preOf, List.append_nil] at eU
      rw [eU] at k
      exact k H1 nl da s1 hnl hn1 tD
    | cons X W =>
      unfold TreesAt at tW
      obtain ⟨x, wb, rfl, tX, tW⟩ := tW
      rw [show (!((x :: wb).reverse.map V.ref).isEmpty) = true by simp]
      refine iteT ⟨_, fun σ' H' q => q, ?_⟩
      refine ⟨_, rfl, .inl ⟨rfl, _, SqL.of hw1⟩, wl, _, V.ref x, rfl, rfl, hw1, by simp, ?_⟩
      rw [show ((x :: wb).reverse.map V.ref).dropLast = wb.reverse.map V.ref by simp]
      refine ⟨_, rfl, .inl ⟨rfl, _, SqL.of ((upd_ne (Ne.symm wn)).trans hn1)⟩, _, rfl, nl, _, _, rfl, rfl, (upd_ne (Ne.symm wn)).trans hn1, ?_, ?_⟩
      · rw [List.length_map]; exact small1000' (by omega)
      cases X with
      | node kd ls l =>
      have tX' := tX
      unfold TreeAt at tX
      obtain ⟨dx, la, ka, lb, ks, ⟨h1, _⟩, _, _, ⟨h4, _⟩, h5⟩ := tX
      have u1 : ∀ {b o}, H b = some o -> upd (upd H1 wl (.lst (wb.reverse.map V.ref))) nl (.lst (da.map V.ref ++ [V.ref x])) b = some o := fun {b o} e => by
        rw [upd_ne (ne_of_none e hnl), upd_ne (ne_of_none e hwl)]; exact s1 b o e
      have w2 : upd (upd H1 wl (.lst (wb.reverse.map V.ref))) nl (.lst (da.map V.ref ++ [V.ref x])) wl = some (.lst (wb.reverse.map V.ref)) := by rw [upd_ne wn, upd_same]
      have n2 : upd (upd H1 wl (.lst (wb.reverse.map V.ref))) nl (.lst (da.map V.ref ++ [V.ref x])) nl = some (.lst (da.map V.ref ++ [V.ref x])) := upd_same
      generalize upd (upd H1 wl (.lst (wb.reverse.map V.ref))) nl (.lst (da.map V.ref ++ [V.ref x])) = H2 at u1 w2 n2 ⊢
      refine ⟨_, rfl, .inl ⟨rfl, _, SqL.of w2⟩, _, rfl, x, _, dx, _, _, rfl, u1 h1, T.c_Node, T.n_Node_kids, nodF_kids _ _ _ _, ka, _, rfl, SqL.of (u1 h4), fun q hq => ?_⟩
      have s3 := same_new (o := .lst (ks.map V.ref).reverse) hq
      have lk : ks.length = l.length := Paired.length (trees_paired.mp h5)
      have hlen2 : (preOf (Vastoa.Tree.node kd ls l :: W)).length = 1 + (preOf (l ++ W)).length := by rw [preOf_append]; simp only [preOf, pre, List.length_append, List.length_cons]; omega
      have lp : ∀ y : List VT, y.length <= (preOf y).length := by
        intro y
        induction y with
        | nil => exact Nat.zero_le _
        | cons T' y ih => cases T' with | node k' ls' l' => simp only [preOf, pre, List.length_cons, List.length_append]; omega
      have hlw := lp (l ++ W)
      rw [List.length_append] at hlw
      refine ⟨wl, q, _, _, rfl, rfl, s3 _ _ w2, upd_same, ?_, ?_⟩
      · rw [List.length_map, List.length_reverse, List.length_reverse, List.length_map]
        have : (1000000 : Nat) < sizeLine := by decide
        simp only [List.length_cons] at lW
        omega
      · refine ⟨_, ?_, _, D ++ [.node kd ls l], l ++ W, da ++ [x], ks ++ wb, rfl, fun b o e => ?_, ?_, ?_, trees_app tD ?_, trees_app h5 tW, ?_, rfl⟩
        · omega
        · rw [upd_ne (ne_of_none e hwl)]; exact s3 _ _ (u1 e)
        · rw [upd_ne (Ne.symm wn)]; rw [s3 _ _ n2, List.map_append]; rfl
        · rw [upd_same]; simp
        · unfold TreesAt; exact ⟨x, [], rfl, tX', by unfold TreesAt; rfl⟩
        · rw [eU, preOf_append]; simp [preOf, pre]
end
end RT
end
section
set_option Elab.async false
set_option linter.all false
set_option maxRecDepth 100000
set_option maxHeartbeats 2000000
namespace RT
open PySem PySem.Spec PyProof.Rows L2
def labsOf (ls : List (List Nat)) : List Nat := ls.flatMap fun x => x.length :: x
def spLabs : Sp := fun vs H Q E => ∃ (la : Addr) (lb : List Addr) (ls : List (List Nat)), vs = [.ref la] /\ H la = some (.lst (lb.map V.ref)) /\ LabsAt M0 H lb ls /\ (labsOf ls).length <= 700000 /\ ∀ H' p, Same H H' -> H p = none -> H' p = some (.lst (nt (ls.length :: labsOf ls))) -> Q (.ref p) H'
def spNumbers (a : Ad) : Sp := fun vs H Q E => ∃ (t : Addr) (T : VT), vs = [.ref t] /\ TreeAt a M0 H T t /\ RM.tw T <= 200000 /\ RM.lw T <= 2048 /\ ∀ H' p, Same H H' -> H p = none -> H' p = some (.lst (nt (Vastoa.rows T))) -> Q (.ref p) H'
def kindD : List (Key × V) := (["piece", "num", "yes", "no", "none", "name", "text", "list", "record", "recur", "get", "app", "neg", "not", "has", "fn", "fields", "fields..", "param", "let", "if", "must", "or", "and", "==", "!=", "<", "<=", "//", "++", "+", "-", "*"] : List String).zipIdx.map fun p => (Sum.inr (Str.ofString p.1), V.int p.2)
theorem kind_num (k : Vastoa.Kind) : valV kindD (Sum.inr (kindS k)) = some (.int ((k.number : Nat) : Int)) := by
  cases k with
  | op o => cases o <;> kernel_rfl
  | _ => kernel_rfl
def treeOf (txt : List Nat) : List V := match Vastoa.read txt with
  | .ok T => .int 0 :: nt (Vastoa.rows T)
  | .error x => [.int (-(x.kind : Int))]
def spTree (K : PySem.W.Frag) : Sp := fun vs H Q E => ∃ (ta : Addr) (txt : List Nat), vs = [.ref ta] /\ SqL K H ta (nt txt) /\ ∀ (H' : Hp) (p : Addr), H' p = some (.lst (treeOf txt)) -> Q (.ref p) H'
section
variable {P : Program} {w : World} {K : PySem.W.Frag} {mg : Str -> Option Value} {base : Heap} {f : Addr} {fd : FuncData} {a : Ad}
theorem sc_labs : FnScope ["labels", "numbers", "label"] ["labels"] (defScope s_numbers_of_labels) := ⟨rfl, rfl, rfl, by decide +kernel, rfl, by decide +kernel, by decide +kernel⟩
theorem labsOf_take {ls : List (List Nat)} {i : Nat} {x : List Nat} (h : ls[i]? = some x) : labsOf (ls.take (i + 1)) = labsOf (ls.take i) ++ (x.length :: x) := by
  unfold labsOf
  rw [List.take_succ, h, List.flatMap_append]
  simp
theorem labsOf_le (ls : List (List Nat)) (i : Nat) : (labsOf (ls.take i)).length <= (labsOf ls).length := by
  have : labsOf ls = labsOf (ls.take i) ++ labsOf (ls.drop i) := by unfold labsOf; rw [<- List.flatMap_append, List.take_append_drop]
  rw [this, List.length_append]; omega
theorem ok_numbers_of_labels (F : Fun K "numbers_of_labels" "numbers_of_labels" s_numbers_of_labels f fd) (T : Tx P w K mg a) : FnOk P w K mg base CX0 1 f fd ["labels"] spLabs := by
  refine F.ok sc_labs (fun vs H Q E h => ?_) (fun cdv A outer s H vs Q E hr h => ?_)
  · obtain ⟨la, lb, ls, rfl, _⟩ := h; rfl
  · obtain ⟨la, lb, ls, rfl, hla, hlb, hlen, k⟩ := h
    refine ⟨_, pss_cons (ps_set (i := 1) sc_labs.nd rfl (Or.inl rfl) (pe_lst (pa_cons (pe_callB call_len_seq (by rfl) T.b_len PySem.boot_len (pa_cons (pv 0) pa_nil)) pa_nil)))
      (pss_cons (ps_for PassesOwn.never rfl (pi_list (pv 0)) (pg_name (i := 2) sc_labs.nd rfl (Or.inl rfl))
        (pss_cons (ps_expr (pe_bm PySem.F.plainAttrs_list PySem.F.slot_list_append PySem.F.type_list_append mt_append (pv 1) (pa_cons (pe_callB call_len_seq (by rfl) T.b_len PySem.boot_len (pa_cons (pv 2) pa_nil)) pa_nil)))
        (pss_one (ps_expr (pe_bm PySem.F.plainAttrs_list PySem.F.slot_list_extend PySem.F.type_list_extend mt_extend (pv 1) (pa_cons (pv 2) pa_nil))))))
      (pss_one (ps_ret (pv 1)))), ?_⟩
    have ll : lb.length = ls.length := Paired.length hlb
    refine ⟨_, rfl, la, _, rfl, .inl (SqL.of hla), (by show 1 <= sizeLine; decide), fun nl hnl => ?_⟩
    rw [show (((lb.map V.ref).length : Nat) : Int) = ((ls.length : Nat) : Int) by rw [List.length_map, ll]]
    refine ⟨_, rfl, la, rfl, ⟨_, SqL.of (same_new hnl _ _ hla)⟩, for_list (K := K) (a := la) (xs := lb.map V.ref) (fun i σ H' => ∃ v : Option V, σ = [some (.ref la), some (.ref nl), v] /\ Same H H' /\ H' nl = some (.lst (nt (ls.length :: labsOf (ls.take i)))))
      ⟨none, rfl, same_new hnl, upd_same⟩ (fun i σ H' _ ⟨v, _, s1, _⟩ => SqL.of (s1 _ _ hla)) ?_ ?_⟩
    · rintro i y σ H1 hi ⟨v, rfl, s1, h1⟩
      obtain ⟨x, hx, rfl⟩ : ∃ x, lb[i]? = some x /\ V.ref x = y := by
        rw [List.getElem?_map] at hi
        exact Option.map_eq_some_iff.mp hi
      obtain ⟨xs, hxs, hx1, _⟩ : ∃ xs, ls[i]? = some xs /\ H x = some (.lst (nt xs)) /\ ¬ M0 x := by
        have hi' : i < ls.length := by have := (List.getElem?_eq_some_iff.mp hx).1; omega
        obtain ⟨x', e1, e2⟩ := paired_get hlb (List.getElem?_eq_getElem hi')
        rw [hx] at e1; cases e1
        exact ⟨_, List.getElem?_eq_getElem hi', e2⟩
      have lt := labsOf_take hxs
      have le := labsOf_le ls (i + 1)
      rw [lt, List.length_append, List.length_cons] at le
      have xn : x ≠ nl := ne_of_none hx1 hnl
      refine ⟨_, rfl, .inl ⟨rfl, _, SqL.of h1⟩, _, rfl, x, _, rfl, .inl (SqL.of (s1 _ _ hx1)), nl, _, _, rfl, rfl, h1, ?_, ?_⟩
      · unfold nt; rw [List.length_map, List.length_cons]; exact small1000' (by omega)
      refine ⟨_, rfl, .inl ⟨rfl, _, SqL.of upd_same⟩, _, rfl, nl, x, _, _, rfl, rfl, upd_same, (upd_ne xn).trans (s1 _ _ hx1), ?_, ?_⟩
      · unfold nt
        simp only [List.length_append, List.length_map, List.length_cons, List.length_nil]
        have : (1000000 : Nat) < sizeLine := by decide
        omega
      · refine ⟨_, rfl, fun b o e => ?_, ?_⟩
        · rw [upd_ne (ne_of_none e hnl), upd_ne (ne_of_none e hnl)]; exact s1 b o e
        · rw [upd_same, lt]; unfold nt; simp
    · rintro σ H1 ⟨v, rfl, s1, h1⟩
      refine ⟨_, rfl, k H1 nl s1 hnl ?_⟩
      rw [h1, List.length_map, ll, List.take_length]
theorem sc_numbers : FnScope ["tree", "numbers", "node"] ["tree"] (defScope s_numbers_of) := ⟨rfl, rfl, rfl, by decide +kernel, rfl, by decide +kernel, by decide +kernel⟩
theorem rowsF_take {l : List VT} {i : Nat} {x : VT} (h : l[i]? = some x) : (l.take (i + 1)).flatMap rowOf = (l.take i).flatMap rowOf ++ rowOf x := by
  rw [List.take_succ, h, List.flatMap_append]
  simp
theorem rowsF_le (l : List VT) (i : Nat) : ((l.take i).flatMap rowOf).length <= (l.flatMap rowOf).length := by
  have : l.flatMap rowOf = (l.take i).flatMap rowOf ++ (l.drop i).flatMap rowOf := by rw [<- List.flatMap_append, List.take_append_drop]
  rw [this, List.length_append]; omega
theorem ok_numbers_of (F : Fun K "numbers_of" "numbers_of" s_numbers_of f fd) (T : Tx P w K mg a) {ka : Addr} (gK : GlV mg "KIND_NUMBERS" (.ref ka)) (dK : KDict P w K ka kindD)
    (Gn : FnAt P w K mg base CX0 1 "nodes_of" ["tree"] (spNodes a)) (Gl : FnAt P w K mg base CX0 1 "numbers_of_labels" ["labels"] spLabs) : FnOk P w K mg base CX0 2 f fd ["tree"] (spNumbers a) := by
  refine F.ok sc_numbers (fun vs H Q E h => ?_) (fun cdv A outer s H vs Q E hr h => ?_)
  · obtain ⟨t, U, rfl, _⟩ := h; rfl
  · obtain ⟨t, U, rfl, hU, hw, hl, k⟩ := h
    refine ⟨_, pss_cons (ps_set (i := 1) sc_numbers.nd rfl (Or.inl rfl) (pe_lst pa_nil))
      (pss_cons (ps_for PassesOwn.never rfl (pi_list (pe_callF Gn hr pass0 (pa_cons (pv 0) pa_nil))) (pg_name (i := 2) sc_numbers.nd rfl (Or.inl rfl))
        (pss_cons (ps_expr (pe_bm PySem.F.plainAttrs_list PySem.F.slot_list_append PySem.F.type_list_append mt_append (pv 1) (pa_cons (pe_kget (pe_gl gK) (pe_fld (pv 2) rfl) (fun _ _ => rfl)) pa_nil)))
        (pss_cons (ps_expr (pe_bm PySem.F.plainAttrs_list PySem.F.slot_list_extend PySem.F.type_list_extend mt_extend (pv 1) (pa_cons (pe_callF Gl hr pass0 (pa_cons (pe_fld (pv 2) rfl) pa_nil)) pa_nil)))
        (pss_one (ps_expr (pe_bm PySem.F.plainAttrs_list PySem.F.slot_list_append PySem.F.type_list_append mt_append (pv 1) (pa_cons (pe_callB call_len_seq (by rfl) T.b_len PySem.boot_len (pa_cons (pe_fld (pv 2) rfl) pa_nil)) pa_nil)))))))
      (pss_one (ps_ret (pv 1)))), ?_⟩
    have hrl := rows_len U
    rw [rows_pre] at hrl
    refine ⟨Nat.zero_le _, fun nl hnl => ?_⟩
    have s0 := same_new (o := .lst []) hnl
    have n0 : upd H nl (.lst []) nl = some (.lst []) := upd_same
    generalize upd H nl (.lst []) = H0 at s0 n0 ⊢
    have hUM : TreeAt a (fun b => b = nl) H0 U t := TreeAt.pass (fun b o e _ => ⟨s0 b o e, ne_of_none e hnl⟩) _ _ hU
    refine ⟨_, rfl, t, U, _, rfl, hUM, hw, fun H1 p ks s1 hp hp1 hks => ?_⟩
    have hnl1 := s1 _ _ n0
    have hpn : p ≠ nl := fun e => by rw [e, n0] at hp; cases hp
    have lk : ks.length = (pre U).length := Paired.length (trees_paired.mp hks)
    refine ⟨p, rfl, ⟨_, SqL.of hp1⟩, for_list (K := K) (a := p) (xs := ks.map V.ref) (fun i σ H' => ∃ v : Option V, σ = [some (.ref t), some (.ref nl), v] /\ (∀ b o, H1 b = some o -> b ≠ nl -> H' b = some o) /\ H' nl = some (.lst (nt (((pre U).take i).flatMap rowOf))))
      ⟨none, rfl, fun b o e _ => e, hnl1⟩ (fun i σ H' _ ⟨v, _, s2, _⟩ => SqL.of (s2 _ _ hp1 hpn)) ?_ ?_⟩
    · rintro i y σ H2 hi ⟨v, rfl, s2, h2⟩
      obtain ⟨x, hx, rfl⟩ : ∃ x, ks[i]? = some x /\ V.ref x = y := by
        rw [List.getElem?_map] at hi
        exact Option.map_eq_some_iff.mp hi
      obtain ⟨X, hX, tX⟩ : ∃ X, (pre U)[i]? = some X /\ TreeAt a (fun b => b = nl) H0 X x := by
        have hi' : i < (pre U).length := by have := (List.getElem?_eq_some_iff.mp hx).1; omega
        obtain ⟨x', e1, e2⟩ := paired_get (trees_paired.mp hks) (List.getElem?_eq_getElem hi')
        rw [hx] at e1; cases e1
        exact ⟨_, List.getElem?_eq_getElem hi', e2⟩
      have lt := rowsF_take hX
      have le := rowsF_le (pre U) (i + 1)
      rw [lt, List.length_append] at le
      cases X with
      | node kd ls l =>
      have le2 : (rowOf (Vastoa.Tree.node kd ls l)).length = 3 + (labsOf ls).length := by simp [rowOf, labsOf]; omega
      have big : (1000000 : Nat) < sizeLine := by decide
      unfold TreeAt at tX
      obtain ⟨dx, la, ka', lb, kk, ⟨t1, m1⟩, ⟨t2, m2⟩, t3, ⟨t4, m4⟩, t5⟩ := tX
      have lk5 : kk.length = l.length := Paired.length (trees_paired.mp t5)
      have u : ∀ {b o}, H0 b = some o -> b ≠ nl -> H2 b = some o := fun {b o} e n => s2 _ _ (s1 _ _ e) n
      have u3 : ∀ {b o} (y : V), H0 b = some o -> b ≠ nl -> upd H2 nl (.lst (nt (((pre U).take i).flatMap rowOf) ++ [y])) b = some o := fun {b o} y e n => (upd_ne n).trans (u e n)
      refine ⟨_, rfl, .inl ⟨rfl, _, SqL.of h2⟩, _, rfl, x, _, dx, _, _, rfl, u t1 m1, T.c_Node, T.n_Node_kind, nodF_kind _ _ _ _, ka, _, Sum.inr (kindS kd), _, rfl, dK, rfl, kind_num kd, nl, _, _, rfl, rfl, h2, ?_, ?_⟩
      · unfold nt; rw [List.length_map]; omega
      have n3 : upd H2 nl (.lst (nt (((pre U).take i).flatMap rowOf) ++ [V.int ((kd.number : Nat) : Int)])) nl = some (.lst (nt (((pre U).take i).flatMap rowOf) ++ [V.int ((kd.number : Nat) : Int)])) := upd_same
      have v3 : ∀ {b o}, H1 b = some o -> b ≠ nl -> upd H2 nl (.lst (nt (((pre U).take i).flatMap rowOf) ++ [V.int ((kd.number : Nat) : Int)])) b = some o := fun {b o} e n => (upd_ne n).trans (s2 _ _ e n)
      replace u3 := fun {b o} => @u3 b o (V.int ((kd.number : Nat) : Int))
      generalize upd H2 nl (.lst (nt (((pre U).take i).flatMap rowOf) ++ [V.int ((kd.number : Nat) : Int)])) = H3 at u3 n3 v3 ⊢
      have t3' : LabsAt M0 H3 lb ls := paired_imp (fun x y q => ⟨u3 q.1 q.2, id⟩) t3
      refine ⟨_, rfl, .inl ⟨rfl, _, SqL.of n3⟩, _, rfl, x, _, dx, _, _, rfl, u3 t1 m1, T.c_Node, T.n_Node_labels, nodF_labels _ _ _ _, la, lb, ls, rfl, u3 t2 m2, t3', by omega, fun H4 q s4 hq hq4 => ?_⟩
      refine ⟨nl, q, _, _, rfl, rfl, s4 _ _ n3, hq4, ?_, ?_⟩
      · unfold nt; simp only [List.length_append, List.length_map, List.length_cons, List.length_nil]; omega
      have n5 : upd H4 nl (.lst ((nt (((pre U).take i).flatMap rowOf) ++ [V.int ((kd.number : Nat) : Int)]) ++ nt (ls.length :: labsOf ls))) nl = some (.lst ((nt (((pre U).take i).flatMap rowOf) ++ [V.int ((kd.number : Nat) : Int)]) ++ nt (ls.length :: labsOf ls))) := upd_same
      have v5 : ∀ {b o}, H1 b = some o -> b ≠ nl -> upd H4 nl (.lst ((nt (((pre U).take i).flatMap rowOf) ++ [V.int ((kd.number : Nat) : Int)]) ++ nt (ls.length :: labsOf ls))) b = some o := fun {b o} e n => (upd_ne n).trans (s4 _ _ (v3 e n))
      generalize upd H4 nl (.lst ((nt (((pre U).take i).flatMap rowOf) ++ [V.int ((kd.number : Nat) : Int)]) ++ nt (ls.length :: labsOf ls))) = H5 at n5 v5 ⊢
      refine ⟨_, rfl, .inl ⟨rfl, _, SqL.of n5⟩, _, rfl, x, _, dx, _, _, rfl, v5 (s1 _ _ t1) m1, T.c_Node, T.n_Node_kids, nodF_kids _ _ _ _, ka', _, rfl, .inl (SqL.of (v5 (s1 _ _ t4) m4)), nl, _, _, rfl, rfl, n5, ?_, ?_⟩
      · unfold nt; simp only [List.length_append, List.length_map, List.length_cons, List.length_nil]; omega
      · refine ⟨_, rfl, fun b o e n => (upd_ne n).trans (v5 e n), ?_⟩
        rw [upd_same, lt, List.length_map, lk5]
        unfold nt rowOf labsOf
        simp
    · rintro σ H2 ⟨v, rfl, s2, h2⟩
      refine ⟨_, rfl, k H2 nl (fun b o e => s2 _ _ (s1 _ _ (s0 _ _ e)) (ne_of_none e hnl)) hnl ?_⟩
      rw [h2, List.length_map, lk, List.take_length, rows_pre]
end
end RT
end
section
set_option Elab.async false
set_option linter.all false
set_option maxRecDepth 100000
set_option maxHeartbeats 2000000
namespace RT
open PySem PySem.Spec PyProof.Rows L2
theorem sqL_same {K : PySem.W.Frag} {H H' : Hp} {p : Addr} {xs : List V} (s : Same H H') (h : SqL K H p xs) : SqL K H' p xs := by
  rcases h with (h | ⟨o, h⟩) | h
  · exact .inl (.inl (s _ _ h))
  · exact .inl (.inr ⟨o, s _ _ h⟩)
  · exact .inr h
section
variable {P : Program} {w : World} {K : PySem.W.Frag} {mg : Str -> Option Value} {base : Heap} {f : Addr} {fd : FuncData} {a : Ad}
theorem sc_tree : FnScope ["text", "refusal"] ["text"] (defScope s_tree) := ⟨rfl, rfl, rfl, by decide +kernel, rfl, by decide +kernel, by decide +kernel⟩
theorem ok_tree (F : Fun K "tree" "tree" s_tree f fd) (T : Tx P w K mg a) (gR : mg "Refusal" = some (.ref a.Refusal)) (Gr : FnAt P w K mg base (CXR P w) 8 "read" ["text"] (spRead a K)) (Gn : FnAt P w K mg base CX0 2 "numbers_of" ["tree"] (spNumbers a)) : FnOk P w K mg base CX0 9 f fd ["text"] (spTree K) := by
  refine F.ok sc_tree (fun vs H Q E h => ?_) (fun cdv A outer s H vs Q E hr h => ?_)
  · obtain ⟨ta, txt, rfl, _⟩ := h; rfl
  · obtain ⟨ta, txt, rfl, ht, k⟩ := h
    have hr2 : Room 2 _ := hr.mono (by decide)
    refine ⟨_, pss_one (ps_try (tb := fun E1 => tRet (tOp rCat (tLst (tCons (tC (.int 0)) tNil)) (tCall (spNumbers a) [] E0 (tCons (tCall (spRead a K) [] E1 (tCons (tVar 0) tNil)) tNil)))) (ts := tRet (tLst (tCons (tUn (rU fun i => .int (-i)) (tXFld K (tVar 1) "number")) tNil))) (i := 1) rfl rfl rfl sc_tree.nd rfl rfl rfl gR T.x_Refusal
      (fun xe pn E1 hp => pss_one (ps_ret (pe_op op_cat (pe_lst (pa_cons pe_int pa_nil)) (pe_callF Gn hr2 pass0 (pa_cons (pe_callF Gr hr hp (pa_cons (pv 0) pa_nil)) pa_nil))))) (fun e => pss_one (ps_ret (pe_lst (pa_cons (pe_un un_neg (pe_xfld (pv 1) rfl)) pa_nil))))), ?_⟩
    refine ⟨(by show 1 <= sizeLine; decide), fun zl hzl => ?_⟩
    have sz := same_new (o := .lst [V.int 0]) hzl
    have z0 : upd H zl (.lst [V.int 0]) zl = some (.lst [V.int 0]) := upd_same
    have ht0 : SqL K (upd H zl (.lst [V.int 0])) ta (nt txt) := sqL_same sz ht
    generalize upd H zl (.lst [V.int 0]) = H0 at sz z0 ht0 ⊢
    refine ⟨_, rfl, ta, txt, rfl, ht0, fun U eU gU hw hl H' t s' hT => ?_, fun x ex C dx H' s' xa => ?_⟩
    · refine ⟨t, U, rfl, hT, hw, hl, fun H2 q s2 hq hq2 => ?_⟩
      have hrl := rows_len U
      have big : (1000000 : Nat) < sizeLine := by decide
      refine ⟨zl, q, _, _, rfl, rfl, s2 _ _ (s' _ _ z0), hq2, ?_, fun p hp => ?_⟩
      · unfold nt; simp only [List.length_map, List.length_cons, List.length_nil]; omega
      refine k _ p ?_
      rw [upd_same]
      unfold treeOf
      rw [eU]
      rfl
    · refine ⟨C, dx, rfl, rfl, xa.cls, xa.sub, fun e xs he => ?_⟩
      have hd : (upd H' e (XOb e C xs (some dx))) dx = some (XDi dx (rfF (x.kind : Int) (x.place : Int))) := by rw [upd_ne (ne_of_none xa.di he)]; exact xa.di
      refine ⟨_, rfl, e, C, xs, dx, _, _, rfl, upd_same, hd, xa.cls, xa.nn, rfl, _, rfl, (by show 1 <= sizeLine; decide), fun p hp => ?_⟩
      refine k _ p ?_
      rw [upd_same]
      unfold treeOf
      rw [ex]
end
theorem due_tree (l : List Int) (h : NeutralIO.bytes l = true) : treeOf (VastoaNeutral.text l) = (PyVastoa.tree l).map V.int := by
  have ans : ∀ t : List Nat, (VastoaNeutral.encode (Vastoa.answer (.tree t))).map V.int = treeOf t := fun t => by
    show (VastoaNeutral.encode (match Vastoa.read t with
      | .error f => Vastoa.faulty 0 f
      | .ok t => { value := 0, numbers := Vastoa.rows t })).map V.int = _
    unfold treeOf
    cases Vastoa.read t with
    | ok T =>
      show V.int 0 :: ((Vastoa.rows T).map Int.ofNat).map V.int = _
      rw [List.map_map]; rfl
    | error x =>
      show [V.int (-(x.kind : Int) - 0)] = _
      rw [Int.sub_zero]
  rw [<- ans]
  unfold PyVastoa.tree VastoaNeutral.step VastoaNeutral.callOf
  simp only [h, if_true]
  rfl
end RT
end
section
set_option Elab.async false
set_option linter.all false
set_option maxRecDepth 100000
set_option maxHeartbeats 4000000
namespace RT
open PySem PySem.Spec PyProof.Rows L2
theorem gram_nodup : (gramS.map fun r => (Sum.inr r.1 : Key)).Nodup := by decide +kernel
theorem all_mk {P : Program} {w : World} {K : PySem.W.Frag} {h : Heap} {mg : Str -> Option Value} {fa : Addr}
    {c1k : Addr} {c08 : Addr} {c0O : Addr} {c03 : Addr} {c0X : Addr} {c1a : Addr} {c1g : Addr} {c1z : Addr} {c1v : Addr} {c0z : Addr} {c0K : Addr} {c1p : Addr} {f1b : Addr} {f1h : Addr} {f1A : Addr} {f1w : Addr} {f0A : Addr} {f0L : Addr} {f1q : Addr} {f0Q : Addr} {f1U : Addr} {f1P : Addr} {f1R : Addr} {f1Q : Addr} {f1E : Addr} {f1m : Addr} {f1K : Addr} {f1I : Addr} {f1J : Addr} {f1L : Addr} {f0l : Addr} {f0a : Addr} {f09 : Addr} {f0e : Addr} {f0o : Addr} {f0c : Addr} {f0d : Addr} {f0g : Addr} {f0h : Addr} {f0b : Addr} {f0f : Addr} {f0m : Addr} {f0j : Addr} {f1G : Addr} {f05 : Addr} {f1H : Addr} {f1F : Addr} {f1O : Addr} {f14 : Addr} {f17 : Addr} {f16 : Addr} {f0Y : Addr} {f13 : Addr} {f12 : Addr} {f1T : Addr} {f1V : Addr} {o1b d1b p1b v1b e1b t1b : Value} {x1b y1b : Option Addr} {z1b : Array (Option Value)} {o1h d1h p1h v1h e1h t1h : Value} {x1h y1h : Option Addr} {z1h : Array (Option Value)} {o1A d1A p1A v1A e1A t1A : Value} {x1A y1A : Option Addr} {z1A : Array (Option Value)} {o1w d1w p1w v1w e1w t1w : Value} {x1w y1w : Option Addr} {z1w : Array (Option Value)} {o0A d0A p0A v0A e0A t0A : Value} {x0A y0A : Option Addr} {z0A : Array (Option Value)} {o0L d0L p0L v0L e0L t0L : Value} {x0L y0L : Option Addr} {z0L : Array (Option Value)} {o1q d1q p1q v1q e1q t1q : Value} {x1q y1q : Option Addr} {z1q : Array (Option Value)} {o0Q d0Q p0Q v0Q e0Q t0Q : Value} {x0Q y0Q : Option Addr} {z0Q : Array (Option Value)} {o1U d1U p1U v1U e1U t1U : Value} {x1U y1U : Option Addr} {z1U : Array (Option Value)} {o1P d1P p1P v1P e1P t1P : Value} {x1P y1P : Option Addr} {z1P : Array (Option Value)} {o1R d1R p1R v1R e1R t1R : Value} {x1R y1R : Option Addr} {z1R : Array (Option Value)} {o1Q d1Q p1Q v1Q e1Q t1Q : Value} {x1Q y1Q : Option Addr} {z1Q : Array (Option Value)} {o1E d1E p1E v1E e1E t1E : Value} {x1E y1E : Option Addr} {z1E : Array (Option Value)} {o1m d1m p1m v1m e1m t1m : Value} {x1m y1m : Option Addr} {z1m : Array (Option Value)} {o1K d1K p1K v1K e1K t1K : Value} {x1K y1K : Option Addr} {z1K : Array (Option Value)} {o1I d1I p1I v1I e1I t1I : Value} {x1I y1I : Option Addr} {z1I : Array (Option Value)} {o1J d1J p1J v1J e1J t1J : Value} {x1J y1J : Option Addr} {z1J : Array (Option Value)} {o1L d1L p1L v1L e1L t1L : Value} {x1L y1L : Option Addr} {z1L : Array (Option Value)} {o0l d0l p0l v0l e0l t0l : Value} {x0l y0l : Option Addr} {z0l : Array (Option Value)} {o0a d0a p0a v0a e0a t0a : Value} {x0a y0a : Option Addr} {z0a : Array (Option Value)} {o09 d09 p09 v09 e09 t09 : Value} {x09 y09 : Option Addr} {z09 : Array (Option Value)} {o0e d0e p0e v0e e0e t0e : Value} {x0e y0e : Option Addr} {z0e : Array (Option Value)} {o0o d0o p0o v0o e0o t0o : Value} {x0o y0o : Option Addr} {z0o : Array (Option Value)} {o0c d0c p0c v0c e0c t0c : Value} {x0c y0c : Option Addr} {z0c : Array (Option Value)} {o0d d0d p0d v0d e0d t0d : Value} {x0d y0d : Option Addr} {z0d : Array (Option Value)} {o0g d0g p0g v0g e0g t0g : Value} {x0g y0g : Option Addr} {z0g : Array (Option Value)} {o0h d0h p0h v0h e0h t0h : Value} {x0h y0h : Option Addr} {z0h : Array (Option Value)} {o0b d0b p0b v0b e0b t0b : Value} {x0b y0b : Option Addr} {z0b : Array (Option Value)} {o0f d0f p0f v0f e0f t0f : Value} {x0f y0f : Option Addr} {z0f : Array (Option Value)} {o0m d0m p0m v0m e0m t0m : Value} {x0m y0m : Option Addr} {z0m : Array (Option Value)} {o0j d0j p0j v0j e0j t0j : Value} {x0j y0j : Option Addr} {z0j : Array (Option Value)} {o1G d1G p1G v1G e1G t1G : Value} {x1G y1G : Option Addr} {z1G : Array (Option Value)} {o05 d05 p05 v05 e05 t05 : Value} {x05 y05 : Option Addr} {z05 : Array (Option Value)} {o1H d1H p1H v1H e1H t1H : Value} {x1H y1H : Option Addr} {z1H : Array (Option Value)} {o1F d1F p1F v1F e1F t1F : Value} {x1F y1F : Option Addr} {z1F : Array (Option Value)} {o1O d1O p1O v1O e1O t1O : Value} {x1O y1O : Option Addr} {z1O : Array (Option Value)} {o14 d14 p14 v14 e14 t14 : Value} {x14 y14 : Option Addr} {z14 : Array (Option Value)} {o17 d17 p17 v17 e17 t17 : Value} {x17 y17 : Option Addr} {z17 : Array (Option Value)} {o16 d16 p16 v16 e16 t16 : Value} {x16 y16 : Option Addr} {z16 : Array (Option Value)} {o0Y d0Y p0Y v0Y e0Y t0Y : Value} {x0Y y0Y : Option Addr} {z0Y : Array (Option Value)} {o13 d13 p13 v13 e13 t13 : Value} {x13 y13 : Option Addr} {z13 : Array (Option Value)} {o12 d12 p12 v12 e12 t12 : Value} {x12 y12 : Option Addr} {z12 : Array (Option Value)} {o1T d1T p1T v1T e1T t1T : Value} {x1T y1T : Option Addr} {z1T : Array (Option Value)} {o1V d1V p1V v1V e1V t1V : Value} {x1V y1V : Option Addr} {z1V : Array (Option Value)} {j1f : Tok} {j0y : Tok} {j0V : Tok} {j02 : Tok} {j0U : Tok} {j0v : Tok} {j0s : Tok} {j0D : Tok} {j1D : Tok} {j01 : Tok} {j1t : Tok} {j0x : Tok} {j0W : Tok} {j0H : Tok} {j0F : Tok} {j0J : Tok} {j0I : Tok} {j0G : Tok} {j0E : Tok} {t1u : Addr} {t1e : Addr} {t00 : Addr} {t0t : Addr} {e0t : Array DictEntry} {m0t : Nat} {t0u : Addr} {e0u : Array DictEntry} {m0u : Nat} {t0w : Addr} {e0w : Array DictEntry} {m0w : Nat}
    (X : K.In h) (G : h.Ns mainGlobals mg) (hfa : mg "tree" = some (.ref fa))
    (a1k : PySem.W.nsIn K mainGlobals "Token" = some (some (.ref c1k)))
    (a08 : PySem.W.nsIn K mainGlobals "Cutter" = some (some (.ref c08)))
    (a0O : PySem.W.nsIn K mainGlobals "Node" = some (some (.ref c0O)))
    (a03 : PySem.W.nsIn K mainGlobals "Begun" = some (some (.ref c03)))
    (a0X : PySem.W.nsIn K mainGlobals "Reader" = some (some (.ref c0X)))
    (a1a : PySem.W.nsIn K mainGlobals "Refusal" = some (some (.ref c1a)))
    (a1g : PySem.W.nsIn K mainGlobals "TextTooLong" = some (some (.ref c1g)))
    (a1z : PySem.W.nsIn K mainGlobals "WrongToken" = some (some (.ref c1z)))
    (a1v : PySem.W.nsIn K mainGlobals "WrongSyntax" = some (some (.ref c1v)))
    (a0z : PySem.W.nsIn K mainGlobals "LevelTooDeep" = some (some (.ref c0z)))
    (a0K : PySem.W.nsIn K mainGlobals "NameTwice" = some (some (.ref c0K)))
    (a1p : PySem.W.nsIn K mainGlobals "TreeTooDeep" = some (some (.ref c1p)))
    (a1b : PySem.W.findIn K (.ref c1a) "__init__" = some (some (.ref f1b)))
    (a1h : PySem.W.findIn K (.ref c1g) "__init__" = some (some (.ref f1h)))
    (a1A : PySem.W.findIn K (.ref c1z) "__init__" = some (some (.ref f1A)))
    (a1w : PySem.W.findIn K (.ref c1v) "__init__" = some (some (.ref f1w)))
    (a0A : PySem.W.findIn K (.ref c0z) "__init__" = some (some (.ref f0A)))
    (a0L : PySem.W.findIn K (.ref c0K) "__init__" = some (some (.ref f0L)))
    (a1q : PySem.W.findIn K (.ref c1p) "__init__" = some (some (.ref f1q)))
    (a0Q : PySem.W.findIn K (.ref c0O) "__init__" = some (some (.ref f0Q)))
    (a1U : PySem.W.nsIn K mainGlobals "refuse_deep" = some (some (.ref f1U)))
    (a1P : PySem.W.nsIn K mainGlobals "nodes_of" = some (some (.ref f1P)))
    (a1R : PySem.W.nsIn K mainGlobals "numbers_of_labels" = some (some (.ref f1R)))
    (a1Q : PySem.W.nsIn K mainGlobals "numbers_of" = some (some (.ref f1Q)))
    (a1E : PySem.W.nsIn K mainGlobals "bytes_of" = some (some (.ref f1E)))
    (a1m : PySem.W.findIn K (.ref c1k) "__init__" = some (some (.ref f1m)))
    (a1K : PySem.W.nsIn K mainGlobals "is_letter" = some (some (.ref f1K)))
    (a1I : PySem.W.nsIn K mainGlobals "is_digit" = some (some (.ref f1I)))
    (a1J : PySem.W.nsIn K mainGlobals "is_in_name" = some (some (.ref f1J)))
    (a1L : PySem.W.nsIn K mainGlobals "kind_of_name" = some (some (.ref f1L)))
    (a0l : PySem.W.findIn K (.ref c08) "__init__" = some (some (.ref f0l)))
    (a0a : PySem.W.findIn K (.ref c08) "byte_at" = some (some (.ref f0a)))
    (a09 : PySem.W.findIn K (.ref c08) "add_token" = some (some (.ref f09)))
    (a0e : PySem.W.findIn K (.ref c08) "cut_outside" = some (some (.ref f0e)))
    (a0o : PySem.W.findIn K (.ref c08) "pass_comment" = some (some (.ref f0o)))
    (a0c : PySem.W.findIn K (.ref c08) "cut_name" = some (some (.ref f0c)))
    (a0d : PySem.W.findIn K (.ref c08) "cut_number" = some (some (.ref f0d)))
    (a0g : PySem.W.findIn K (.ref c08) "cut_right_brace" = some (some (.ref f0g)))
    (a0h : PySem.W.findIn K (.ref c08) "cut_sign" = some (some (.ref f0h)))
    (a0b : PySem.W.findIn K (.ref c08) "cut_literal" = some (some (.ref f0b)))
    (a0f : PySem.W.findIn K (.ref c08) "cut_piece" = some (some (.ref f0f)))
    (a0m : PySem.W.findIn K (.ref c08) "is_piece_over" = some (some (.ref f0m)))
    (a0j : PySem.W.findIn K (.ref c08) "gather_byte" = some (some (.ref f0j)))
    (a1G : PySem.W.nsIn K mainGlobals "cut" = some (some (.ref f1G)))
    (a05 : PySem.W.findIn K (.ref c03) "__init__" = some (some (.ref f05)))
    (a1H : PySem.W.nsIn K mainGlobals "fits" = some (some (.ref f1H)))
    (a1F : PySem.W.nsIn K mainGlobals "choose" = some (some (.ref f1F)))
    (a1O : PySem.W.nsIn K mainGlobals "meet_name" = some (some (.ref f1O)))
    (a14 : PySem.W.findIn K (.ref c0X) "__init__" = some (some (.ref f14)))
    (a17 : PySem.W.findIn K (.ref c0X) "step" = some (some (.ref f17)))
    (a16 : PySem.W.findIn K (.ref c0X) "read_token" = some (some (.ref f16)))
    (a0Y : PySem.W.findIn K (.ref c0X) "act" = some (some (.ref f0Y)))
    (a13 : PySem.W.findIn K (.ref c0X) "enter_level" = some (some (.ref f13)))
    (a12 : PySem.W.findIn K (.ref c0X) "end_node" = some (some (.ref f12)))
    (a1T : PySem.W.nsIn K mainGlobals "read" = some (some (.ref f1T)))
    (a1V : PySem.W.nsIn K mainGlobals "tree" = some (some (.ref f1V)))
    (l1b : K.lookup f1b = some ⟨o1b, x1b, .func (PySem.W.fnOf "__init__" "Refusal.__init__" (defArgs s_Refusal_init) (defBody s_Refusal_init) (defScope s_Refusal_init) .none v1b d1b p1b y1b e1b t1b), z1b⟩)
    (b1b : PySem.W.codeIn K e1b "Refusal.__init__" = true)
    (k1b : PySem.W.keepIn K (.ref f1b) = true)
    (i1b : PySem.W.isFn K (.ref f1b) = true)
    (l1h : K.lookup f1h = some ⟨o1h, x1h, .func (PySem.W.fnOf "__init__" "TextTooLong.__init__" (defArgs s_TextTooLong_init) (defBody s_TextTooLong_init) (defScope s_TextTooLong_init) .none v1h d1h p1h y1h e1h t1h), z1h⟩)
    (b1h : PySem.W.codeIn K e1h "TextTooLong.__init__" = true)
    (k1h : PySem.W.keepIn K (.ref f1h) = true)
    (i1h : PySem.W.isFn K (.ref f1h) = true)
    (l1A : K.lookup f1A = some ⟨o1A, x1A, .func (PySem.W.fnOf "__init__" "WrongToken.__init__" (defArgs s_WrongToken_init) (defBody s_WrongToken_init) (defScope s_WrongToken_init) .none v1A d1A p1A y1A e1A t1A), z1A⟩)
    (b1A : PySem.W.codeIn K e1A "WrongToken.__init__" = true)
    (k1A : PySem.W.keepIn K (.ref f1A) = true)
    (i1A : PySem.W.isFn K (.ref f1A) = true)
    (l1w : K.lookup f1w = some ⟨o1w, x1w, .func (PySem.W.fnOf "__init__" "WrongSyntax.__init__" (defArgs s_WrongSyntax_init) (defBody s_WrongSyntax_init) (defScope s_WrongSyntax_init) .none v1w d1w p1w y1w e1w t1w), z1w⟩)
    (b1w : PySem.W.codeIn K e1w "WrongSyntax.__init__" = true)
    (k1w : PySem.W.keepIn K (.ref f1w) = true)
    (i1w : PySem.W.isFn K (.ref f1w) = true)
    (l0A : K.lookup f0A = some ⟨o0A, x0A, .func (PySem.W.fnOf "__init__" "LevelTooDeep.__init__" (defArgs s_LevelTooDeep_init) (defBody s_LevelTooDeep_init) (defScope s_LevelTooDeep_init) .none v0A d0A p0A y0A e0A t0A), z0A⟩)
    (b0A : PySem.W.codeIn K e0A "LevelTooDeep.__init__" = true)
    (k0A : PySem.W.keepIn K (.ref f0A) = true)
    (i0A : PySem.W.isFn K (.ref f0A) = true)
    (l0L : K.lookup f0L = some ⟨o0L, x0L, .func (PySem.W.fnOf "__init__" "NameTwice.__init__" (defArgs s_NameTwice_init) (defBody s_NameTwice_init) (defScope s_NameTwice_init) .none v0L d0L p0L y0L e0L t0L), z0L⟩)
    (b0L : PySem.W.codeIn K e0L "NameTwice.__init__" = true)
    (k0L : PySem.W.keepIn K (.ref f0L) = true)
    (i0L : PySem.W.isFn K (.ref f0L) = true)
    (l1q : K.lookup f1q = some ⟨o1q, x1q, .func (PySem.W.fnOf "__init__" "TreeTooDeep.__init__" (defArgs s_TreeTooDeep_init) (defBody s_TreeTooDeep_init) (defScope s_TreeTooDeep_init) .none v1q d1q p1q y1q e1q t1q), z1q⟩)
    (b1q : PySem.W.codeIn K e1q "TreeTooDeep.__init__" = true)
    (k1q : PySem.W.keepIn K (.ref f1q) = true)
    (i1q : PySem.W.isFn K (.ref f1q) = true)
    (l0Q : K.lookup f0Q = some ⟨o0Q, x0Q, .func (PySem.W.fnOf "__init__" "Node.__init__" (defArgs s_Node_init) (defBody s_Node_init) (defScope s_Node_init) .none v0Q d0Q p0Q y0Q e0Q t0Q), z0Q⟩)
    (b0Q : PySem.W.codeIn K e0Q "Node.__init__" = true)
    (k0Q : PySem.W.keepIn K (.ref f0Q) = true)
    (i0Q : PySem.W.isFn K (.ref f0Q) = true)
    (l1U : K.lookup f1U = some ⟨o1U, x1U, .func (PySem.W.fnOf "refuse_deep" "refuse_deep" (defArgs s_refuse_deep) (defBody s_refuse_deep) (defScope s_refuse_deep) .none v1U d1U p1U y1U e1U t1U), z1U⟩)
    (b1U : PySem.W.codeIn K e1U "refuse_deep" = true)
    (k1U : PySem.W.keepIn K (.ref f1U) = true)
    (l1P : K.lookup f1P = some ⟨o1P, x1P, .func (PySem.W.fnOf "nodes_of" "nodes_of" (defArgs s_nodes_of) (defBody s_nodes_of) (defScope s_nodes_of) .none v1P d1P p1P y1P e1P t1P), z1P⟩)
    (b1P : PySem.W.codeIn K e1P "nodes_of" = true)
    (k1P : PySem.W.keepIn K (.ref f1P) = true)
    (l1R : K.lookup f1R = some ⟨o1R, x1R, .func (PySem.W.fnOf "numbers_of_labels" "numbers_of_labels" (defArgs s_numbers_of_labels) (defBody s_numbers_of_labels) (defScope s_numbers_of_labels) .none v1R d1R p1R y1R e1R t1R), z1R⟩)
    (b1R : PySem.W.codeIn K e1R "numbers_of_labels" = true)
    (k1R : PySem.W.keepIn K (.ref f1R) = true)
    (l1Q : K.lookup f1Q = some ⟨o1Q, x1Q, .func (PySem.W.fnOf "numbers_of" "numbers_of" (defArgs s_numbers_of) (defBody s_numbers_of) (defScope s_numbers_of) .none v1Q d1Q p1Q y1Q e1Q t1Q), z1Q⟩)
    (b1Q : PySem.W.codeIn K e1Q "numbers_of" = true)
    (k1Q : PySem.W.keepIn K (.ref f1Q) = true)
    (l1E : K.lookup f1E = some ⟨o1E, x1E, .func (PySem.W.fnOf "bytes_of" "bytes_of" (defArgs s_bytes_of) (defBody s_bytes_of) (defScope s_bytes_of) .none v1E d1E p1E y1E e1E t1E), z1E⟩)
    (b1E : PySem.W.codeIn K e1E "bytes_of" = true)
    (k1E : PySem.W.keepIn K (.ref f1E) = true)
    (l1m : K.lookup f1m = some ⟨o1m, x1m, .func (PySem.W.fnOf "__init__" "Token.__init__" (defArgs s_Token_init) (defBody s_Token_init) (defScope s_Token_init) .none v1m d1m p1m y1m e1m t1m), z1m⟩)
    (b1m : PySem.W.codeIn K e1m "Token.__init__" = true)
    (k1m : PySem.W.keepIn K (.ref f1m) = true)
    (i1m : PySem.W.isFn K (.ref f1m) = true)
    (l1K : K.lookup f1K = some ⟨o1K, x1K, .func (PySem.W.fnOf "is_letter" "is_letter" (defArgs s_is_letter) (defBody s_is_letter) (defScope s_is_letter) .none v1K d1K p1K y1K e1K t1K), z1K⟩)
    (b1K : PySem.W.codeIn K e1K "is_letter" = true)
    (k1K : PySem.W.keepIn K (.ref f1K) = true)
    (l1I : K.lookup f1I = some ⟨o1I, x1I, .func (PySem.W.fnOf "is_digit" "is_digit" (defArgs s_is_digit) (defBody s_is_digit) (defScope s_is_digit) .none v1I d1I p1I y1I e1I t1I), z1I⟩)
    (b1I : PySem.W.codeIn K e1I "is_digit" = true)
    (k1I : PySem.W.keepIn K (.ref f1I) = true)
    (l1J : K.lookup f1J = some ⟨o1J, x1J, .func (PySem.W.fnOf "is_in_name" "is_in_name" (defArgs s_is_in_name) (defBody s_is_in_name) (defScope s_is_in_name) .none v1J d1J p1J y1J e1J t1J), z1J⟩)
    (b1J : PySem.W.codeIn K e1J "is_in_name" = true)
    (k1J : PySem.W.keepIn K (.ref f1J) = true)
    (l1L : K.lookup f1L = some ⟨o1L, x1L, .func (PySem.W.fnOf "kind_of_name" "kind_of_name" (defArgs s_kind_of_name) (defBody s_kind_of_name) (defScope s_kind_of_name) .none v1L d1L p1L y1L e1L t1L), z1L⟩)
    (b1L : PySem.W.codeIn K e1L "kind_of_name" = true)
    (k1L : PySem.W.keepIn K (.ref f1L) = true)
    (l0l : K.lookup f0l = some ⟨o0l, x0l, .func (PySem.W.fnOf "__init__" "Cutter.__init__" (defArgs s_Cutter_init) (defBody s_Cutter_init) (defScope s_Cutter_init) .none v0l d0l p0l y0l e0l t0l), z0l⟩)
    (b0l : PySem.W.codeIn K e0l "Cutter.__init__" = true)
    (k0l : PySem.W.keepIn K (.ref f0l) = true)
    (i0l : PySem.W.isFn K (.ref f0l) = true)
    (l0a : K.lookup f0a = some ⟨o0a, x0a, .func (PySem.W.fnOf "byte_at" "Cutter.byte_at" (defArgs s_Cutter_byte_at) (defBody s_Cutter_byte_at) (defScope s_Cutter_byte_at) .none v0a d0a p0a y0a e0a t0a), z0a⟩)
    (b0a : PySem.W.codeIn K e0a "Cutter.byte_at" = true)
    (k0a : PySem.W.keepIn K (.ref f0a) = true)
    (i0a : PySem.W.isFn K (.ref f0a) = true)
    (l09 : K.lookup f09 = some ⟨o09, x09, .func (PySem.W.fnOf "add_token" "Cutter.add_token" (defArgs s_Cutter_add_token) (defBody s_Cutter_add_token) (defScope s_Cutter_add_token) .none v09 d09 p09 y09 e09 t09), z09⟩)
    (b09 : PySem.W.codeIn K e09 "Cutter.add_token" = true)
    (k09 : PySem.W.keepIn K (.ref f09) = true)
    (i09 : PySem.W.isFn K (.ref f09) = true)
    (l0e : K.lookup f0e = some ⟨o0e, x0e, .func (PySem.W.fnOf "cut_outside" "Cutter.cut_outside" (defArgs s_Cutter_cut_outside) (defBody s_Cutter_cut_outside) (defScope s_Cutter_cut_outside) .none v0e d0e p0e y0e e0e t0e), z0e⟩)
    (b0e : PySem.W.codeIn K e0e "Cutter.cut_outside" = true)
    (k0e : PySem.W.keepIn K (.ref f0e) = true)
    (i0e : PySem.W.isFn K (.ref f0e) = true)
    (l0o : K.lookup f0o = some ⟨o0o, x0o, .func (PySem.W.fnOf "pass_comment" "Cutter.pass_comment" (defArgs s_Cutter_pass_comment) (defBody s_Cutter_pass_comment) (defScope s_Cutter_pass_comment) .none v0o d0o p0o y0o e0o t0o), z0o⟩)
    (b0o : PySem.W.codeIn K e0o "Cutter.pass_comment" = true)
    (k0o : PySem.W.keepIn K (.ref f0o) = true)
    (i0o : PySem.W.isFn K (.ref f0o) = true)
    (l0c : K.lookup f0c = some ⟨o0c, x0c, .func (PySem.W.fnOf "cut_name" "Cutter.cut_name" (defArgs s_Cutter_cut_name) (defBody s_Cutter_cut_name) (defScope s_Cutter_cut_name) .none v0c d0c p0c y0c e0c t0c), z0c⟩)
    (b0c : PySem.W.codeIn K e0c "Cutter.cut_name" = true)
    (k0c : PySem.W.keepIn K (.ref f0c) = true)
    (i0c : PySem.W.isFn K (.ref f0c) = true)
    (l0d : K.lookup f0d = some ⟨o0d, x0d, .func (PySem.W.fnOf "cut_number" "Cutter.cut_number" (defArgs s_Cutter_cut_number) (defBody s_Cutter_cut_number) (defScope s_Cutter_cut_number) .none v0d d0d p0d y0d e0d t0d), z0d⟩)
    (b0d : PySem.W.codeIn K e0d "Cutter.cut_number" = true)
    (k0d : PySem.W.keepIn K (.ref f0d) = true)
    (i0d : PySem.W.isFn K (.ref f0d) = true)
    (l0g : K.lookup f0g = some ⟨o0g, x0g, .func (PySem.W.fnOf "cut_right_brace" "Cutter.cut_right_brace" (defArgs s_Cutter_cut_right_brace) (defBody s_Cutter_cut_right_brace) (defScope s_Cutter_cut_right_brace) .none v0g d0g p0g y0g e0g t0g), z0g⟩)
    (b0g : PySem.W.codeIn K e0g "Cutter.cut_right_brace" = true)
    (k0g : PySem.W.keepIn K (.ref f0g) = true)
    (i0g : PySem.W.isFn K (.ref f0g) = true)
    (l0h : K.lookup f0h = some ⟨o0h, x0h, .func (PySem.W.fnOf "cut_sign" "Cutter.cut_sign" (defArgs s_Cutter_cut_sign) (defBody s_Cutter_cut_sign) (defScope s_Cutter_cut_sign) .none v0h d0h p0h y0h e0h t0h), z0h⟩)
    (b0h : PySem.W.codeIn K e0h "Cutter.cut_sign" = true)
    (k0h : PySem.W.keepIn K (.ref f0h) = true)
    (i0h : PySem.W.isFn K (.ref f0h) = true)
    (l0b : K.lookup f0b = some ⟨o0b, x0b, .func (PySem.W.fnOf "cut_literal" "Cutter.cut_literal" (defArgs s_Cutter_cut_literal) (defBody s_Cutter_cut_literal) (defScope s_Cutter_cut_literal) .none v0b d0b p0b y0b e0b t0b), z0b⟩)
    (b0b : PySem.W.codeIn K e0b "Cutter.cut_literal" = true)
    (k0b : PySem.W.keepIn K (.ref f0b) = true)
    (i0b : PySem.W.isFn K (.ref f0b) = true)
    (l0f : K.lookup f0f = some ⟨o0f, x0f, .func (PySem.W.fnOf "cut_piece" "Cutter.cut_piece" (defArgs s_Cutter_cut_piece) (defBody s_Cutter_cut_piece) (defScope s_Cutter_cut_piece) .none v0f d0f p0f y0f e0f t0f), z0f⟩)
    (b0f : PySem.W.codeIn K e0f "Cutter.cut_piece" = true)
    (k0f : PySem.W.keepIn K (.ref f0f) = true)
    (i0f : PySem.W.isFn K (.ref f0f) = true)
    (l0m : K.lookup f0m = some ⟨o0m, x0m, .func (PySem.W.fnOf "is_piece_over" "Cutter.is_piece_over" (defArgs s_Cutter_is_piece_over) (defBody s_Cutter_is_piece_over) (defScope s_Cutter_is_piece_over) .none v0m d0m p0m y0m e0m t0m), z0m⟩)
    (b0m : PySem.W.codeIn K e0m "Cutter.is_piece_over" = true)
    (k0m : PySem.W.keepIn K (.ref f0m) = true)
    (i0m : PySem.W.isFn K (.ref f0m) = true)
    (l0j : K.lookup f0j = some ⟨o0j, x0j, .func (PySem.W.fnOf "gather_byte" "Cutter.gather_byte" (defArgs s_Cutter_gather_byte) (defBody s_Cutter_gather_byte) (defScope s_Cutter_gather_byte) .none v0j d0j p0j y0j e0j t0j), z0j⟩)
    (b0j : PySem.W.codeIn K e0j "Cutter.gather_byte" = true)
    (k0j : PySem.W.keepIn K (.ref f0j) = true)
    (i0j : PySem.W.isFn K (.ref f0j) = true)
    (l1G : K.lookup f1G = some ⟨o1G, x1G, .func (PySem.W.fnOf "cut" "cut" (defArgs s_cut) (defBody s_cut) (defScope s_cut) .none v1G d1G p1G y1G e1G t1G), z1G⟩)
    (b1G : PySem.W.codeIn K e1G "cut" = true)
    (k1G : PySem.W.keepIn K (.ref f1G) = true)
    (l05 : K.lookup f05 = some ⟨o05, x05, .func (PySem.W.fnOf "__init__" "Begun.__init__" (defArgs s_Begun_init) (defBody s_Begun_init) (defScope s_Begun_init) .none v05 d05 p05 y05 e05 t05), z05⟩)
    (b05 : PySem.W.codeIn K e05 "Begun.__init__" = true)
    (k05 : PySem.W.keepIn K (.ref f05) = true)
    (i05 : PySem.W.isFn K (.ref f05) = true)
    (l1H : K.lookup f1H = some ⟨o1H, x1H, .func (PySem.W.fnOf "fits" "fits" (defArgs s_fits) (defBody s_fits) (defScope s_fits) .none v1H d1H p1H y1H e1H t1H), z1H⟩)
    (b1H : PySem.W.codeIn K e1H "fits" = true)
    (k1H : PySem.W.keepIn K (.ref f1H) = true)
    (l1F : K.lookup f1F = some ⟨o1F, x1F, .func (PySem.W.fnOf "choose" "choose" (defArgs s_choose) (defBody s_choose) (defScope s_choose) .none v1F d1F p1F y1F e1F t1F), z1F⟩)
    (b1F : PySem.W.codeIn K e1F "choose" = true)
    (k1F : PySem.W.keepIn K (.ref f1F) = true)
    (l1O : K.lookup f1O = some ⟨o1O, x1O, .func (PySem.W.fnOf "meet_name" "meet_name" (defArgs s_meet_name) (defBody s_meet_name) (defScope s_meet_name) .none v1O d1O p1O y1O e1O t1O), z1O⟩)
    (b1O : PySem.W.codeIn K e1O "meet_name" = true)
    (k1O : PySem.W.keepIn K (.ref f1O) = true)
    (l14 : K.lookup f14 = some ⟨o14, x14, .func (PySem.W.fnOf "__init__" "Reader.__init__" (defArgs s_Reader_init) (defBody s_Reader_init) (defScope s_Reader_init) .none v14 d14 p14 y14 e14 t14), z14⟩)
    (b14 : PySem.W.codeIn K e14 "Reader.__init__" = true)
    (k14 : PySem.W.keepIn K (.ref f14) = true)
    (i14 : PySem.W.isFn K (.ref f14) = true)
    (l17 : K.lookup f17 = some ⟨o17, x17, .func (PySem.W.fnOf "step" "Reader.step" (defArgs s_Reader_step) (defBody s_Reader_step) (defScope s_Reader_step) .none v17 d17 p17 y17 e17 t17), z17⟩)
    (b17 : PySem.W.codeIn K e17 "Reader.step" = true)
    (k17 : PySem.W.keepIn K (.ref f17) = true)
    (i17 : PySem.W.isFn K (.ref f17) = true)
    (l16 : K.lookup f16 = some ⟨o16, x16, .func (PySem.W.fnOf "read_token" "Reader.read_token" (defArgs s_Reader_read_token) (defBody s_Reader_read_token) (defScope s_Reader_read_token) .none v16 d16 p16 y16 e16 t16), z16⟩)
    (b16 : PySem.W.codeIn K e16 "Reader.read_token" = true)
    (k16 : PySem.W.keepIn K (.ref f16) = true)
    (i16 : PySem.W.isFn K (.ref f16) = true)
    (l0Y : K.lookup f0Y = some ⟨o0Y, x0Y, .func (PySem.W.fnOf "act" "Reader.act" (defArgs s_Reader_act) (defBody s_Reader_act) (defScope s_Reader_act) .none v0Y d0Y p0Y y0Y e0Y t0Y), z0Y⟩)
    (b0Y : PySem.W.codeIn K e0Y "Reader.act" = true)
    (k0Y : PySem.W.keepIn K (.ref f0Y) = true)
    (i0Y : PySem.W.isFn K (.ref f0Y) = true)
    (l13 : K.lookup f13 = some ⟨o13, x13, .func (PySem.W.fnOf "enter_level" "Reader.enter_level" (defArgs s_Reader_enter_level) (defBody s_Reader_enter_level) (defScope s_Reader_enter_level) .none v13 d13 p13 y13 e13 t13), z13⟩)
    (b13 : PySem.W.codeIn K e13 "Reader.enter_level" = true)
    (k13 : PySem.W.keepIn K (.ref f13) = true)
    (i13 : PySem.W.isFn K (.ref f13) = true)
    (l12 : K.lookup f12 = some ⟨o12, x12, .func (PySem.W.fnOf "end_node" "Reader.end_node" (defArgs s_Reader_end_node) (defBody s_Reader_end_node) (defScope s_Reader_end_node) .none v12 d12 p12 y12 e12 t12), z12⟩)
    (b12 : PySem.W.codeIn K e12 "Reader.end_node" = true)
    (k12 : PySem.W.keepIn K (.ref f12) = true)
    (i12 : PySem.W.isFn K (.ref f12) = true)
    (l1T : K.lookup f1T = some ⟨o1T, x1T, .func (PySem.W.fnOf "read" "read" (defArgs s_read) (defBody s_read) (defScope s_read) .none v1T d1T p1T y1T e1T t1T), z1T⟩)
    (b1T : PySem.W.codeIn K e1T "read" = true)
    (k1T : PySem.W.keepIn K (.ref f1T) = true)
    (l1V : K.lookup f1V = some ⟨o1V, x1V, .func (PySem.W.fnOf "tree" "tree" (defArgs s_tree) (defBody s_tree) (defScope s_tree) .none v1V d1V p1V y1V e1V t1V), z1V⟩)
    (b1V : PySem.W.codeIn K e1V "tree" = true)
    (k1V : PySem.W.keepIn K (.ref f1V) = true)
    (pg1k : PySem.W.plainGet K c1k Str.empty = true)
    (hd1k : PySem.W.hasDictIn K c1k = true)
    (po1k : PySem.W.plainOver K c1k = true)
    (sa1k : PySem.W.findIn K (.ref c1k) "__setattr__" = some (some (.builtin "object.__setattr__")))
    (mk1k : PySem.W.makesIn K c1k = true)
    (kc1k : PySem.W.keepIn K (.ref c1k) = true)
    (n1n : PySem.W.findIn K (.ref c1k) "kind" = some none)
    (n1o : PySem.W.findIn K (.ref c1k) "place" = some none)
    (n1l : PySem.W.findIn K (.ref c1k) "held" = some none)
    (pg08 : PySem.W.plainGet K c08 Str.empty = true)
    (hd08 : PySem.W.hasDictIn K c08 = true)
    (po08 : PySem.W.plainOver K c08 = true)
    (sa08 : PySem.W.findIn K (.ref c08) "__setattr__" = some (some (.builtin "object.__setattr__")))
    (mk08 : PySem.W.makesIn K c08 = true)
    (kc08 : PySem.W.keepIn K (.ref c08) = true)
    (n0q : PySem.W.findIn K (.ref c08) "text" = some none)
    (n0p : PySem.W.findIn K (.ref c08) "place" = some none)
    (n0r : PySem.W.findIn K (.ref c08) "tokens" = some none)
    (n0n : PySem.W.findIn K (.ref c08) "opened" = some none)
    (n0k : PySem.W.findIn K (.ref c08) "in_literal" = some none)
    (n0i : PySem.W.findIn K (.ref c08) "ended" = some none)
    (pg0O : PySem.W.plainGet K c0O Str.empty = true)
    (hd0O : PySem.W.hasDictIn K c0O = true)
    (po0O : PySem.W.plainOver K c0O = true)
    (sa0O : PySem.W.findIn K (.ref c0O) "__setattr__" = some (some (.builtin "object.__setattr__")))
    (mk0O : PySem.W.makesIn K c0O = true)
    (kc0O : PySem.W.keepIn K (.ref c0O) = true)
    (n0S : PySem.W.findIn K (.ref c0O) "kind" = some none)
    (n0T : PySem.W.findIn K (.ref c0O) "labels" = some none)
    (n0R : PySem.W.findIn K (.ref c0O) "kids" = some none)
    (n0P : PySem.W.findIn K (.ref c0O) "depth" = some none)
    (pg03 : PySem.W.plainGet K c03 Str.empty = true)
    (hd03 : PySem.W.hasDictIn K c03 = true)
    (po03 : PySem.W.plainOver K c03 = true)
    (sa03 : PySem.W.findIn K (.ref c03) "__setattr__" = some (some (.builtin "object.__setattr__")))
    (mk03 : PySem.W.makesIn K c03 = true)
    (kc03 : PySem.W.keepIn K (.ref c03) = true)
    (n04 : PySem.W.findIn K (.ref c03) "first" = some none)
    (n06 : PySem.W.findIn K (.ref c03) "labels" = some none)
    (n07 : PySem.W.findIn K (.ref c03) "names" = some none)
    (pg0X : PySem.W.plainGet K c0X Str.empty = true)
    (hd0X : PySem.W.hasDictIn K c0X = true)
    (po0X : PySem.W.plainOver K c0X = true)
    (sa0X : PySem.W.findIn K (.ref c0X) "__setattr__" = some (some (.builtin "object.__setattr__")))
    (mk0X : PySem.W.makesIn K c0X = true)
    (kc0X : PySem.W.keepIn K (.ref c0X) = true)
    (n18 : PySem.W.findIn K (.ref c0X) "tokens" = some none)
    (n0Z : PySem.W.findIn K (.ref c0X) "at" = some none)
    (n15 : PySem.W.findIn K (.ref c0X) "level" = some none)
    (n19 : PySem.W.findIn K (.ref c0X) "waiting" = some none)
    (n11 : PySem.W.findIn K (.ref c0X) "built" = some none)
    (n10 : PySem.W.findIn K (.ref c0X) "begun" = some none)
    (x1a : xclsB K c1a = true)
    (sa1a : PySem.W.findIn K (.ref c1a) "__setattr__" = some (some (.builtin "object.__setattr__")))
    (ga1a : PySem.W.findIn K (.ref c1a) "__getattribute__" = some (some (.builtin "BaseException.__getattribute__")))
    (gh1a : PySem.W.findIn K (.ref c1a) "__getattr__" = some none)
    (u1a : subKB K c1a c1a = true)
    (kc1a : PySem.W.keepIn K (.ref c1a) = true)
    (n1c : PySem.W.findIn K (.ref c1a) "number" = some none)
    (n1d : PySem.W.findIn K (.ref c1a) "place" = some none)
    (x1g : xclsB K c1g = true)
    (sa1g : PySem.W.findIn K (.ref c1g) "__setattr__" = some (some (.builtin "object.__setattr__")))
    (ga1g : PySem.W.findIn K (.ref c1g) "__getattribute__" = some (some (.builtin "BaseException.__getattribute__")))
    (gh1g : PySem.W.findIn K (.ref c1g) "__getattr__" = some none)
    (u1g : subKB K c1g c1a = true)
    (kc1g : PySem.W.keepIn K (.ref c1g) = true)
    (n1i : PySem.W.findIn K (.ref c1g) "number" = some none)
    (n1j : PySem.W.findIn K (.ref c1g) "place" = some none)
    (x1z : xclsB K c1z = true)
    (sa1z : PySem.W.findIn K (.ref c1z) "__setattr__" = some (some (.builtin "object.__setattr__")))
    (ga1z : PySem.W.findIn K (.ref c1z) "__getattribute__" = some (some (.builtin "BaseException.__getattribute__")))
    (gh1z : PySem.W.findIn K (.ref c1z) "__getattr__" = some none)
    (u1z : subKB K c1z c1a = true)
    (kc1z : PySem.W.keepIn K (.ref c1z) = true)
    (n1B : PySem.W.findIn K (.ref c1z) "number" = some none)
    (n1C : PySem.W.findIn K (.ref c1z) "place" = some none)
    (x1v : xclsB K c1v = true)
    (sa1v : PySem.W.findIn K (.ref c1v) "__setattr__" = some (some (.builtin "object.__setattr__")))
    (ga1v : PySem.W.findIn K (.ref c1v) "__getattribute__" = some (some (.builtin "BaseException.__getattribute__")))
    (gh1v : PySem.W.findIn K (.ref c1v) "__getattr__" = some none)
    (u1v : subKB K c1v c1a = true)
    (kc1v : PySem.W.keepIn K (.ref c1v) = true)
    (n1x : PySem.W.findIn K (.ref c1v) "number" = some none)
    (n1y : PySem.W.findIn K (.ref c1v) "place" = some none)
    (x0z : xclsB K c0z = true)
    (sa0z : PySem.W.findIn K (.ref c0z) "__setattr__" = some (some (.builtin "object.__setattr__")))
    (ga0z : PySem.W.findIn K (.ref c0z) "__getattribute__" = some (some (.builtin "BaseException.__getattribute__")))
    (gh0z : PySem.W.findIn K (.ref c0z) "__getattr__" = some none)
    (u0z : subKB K c0z c1a = true)
    (kc0z : PySem.W.keepIn K (.ref c0z) = true)
    (n0B : PySem.W.findIn K (.ref c0z) "number" = some none)
    (n0C : PySem.W.findIn K (.ref c0z) "place" = some none)
    (x0K : xclsB K c0K = true)
    (sa0K : PySem.W.findIn K (.ref c0K) "__setattr__" = some (some (.builtin "object.__setattr__")))
    (ga0K : PySem.W.findIn K (.ref c0K) "__getattribute__" = some (some (.builtin "BaseException.__getattribute__")))
    (gh0K : PySem.W.findIn K (.ref c0K) "__getattr__" = some none)
    (u0K : subKB K c0K c1a = true)
    (kc0K : PySem.W.keepIn K (.ref c0K) = true)
    (n0M : PySem.W.findIn K (.ref c0K) "number" = some none)
    (n0N : PySem.W.findIn K (.ref c0K) "place" = some none)
    (x1p : xclsB K c1p = true)
    (sa1p : PySem.W.findIn K (.ref c1p) "__setattr__" = some (some (.builtin "object.__setattr__")))
    (ga1p : PySem.W.findIn K (.ref c1p) "__getattribute__" = some (some (.builtin "BaseException.__getattribute__")))
    (gh1p : PySem.W.findIn K (.ref c1p) "__getattr__" = some none)
    (u1p : subKB K c1p c1a = true)
    (kc1p : PySem.W.keepIn K (.ref c1p) = true)
    (n1r : PySem.W.findIn K (.ref c1p) "number" = some none)
    (n1s : PySem.W.findIn K (.ref c1p) "place" = some none)
    (cg : PySem.W.specialIn K (.ref c1a) "__getattribute__" = some (some (.builtin "type.__getattribute__")))
    (cr : PySem.W.readsIn K c1a (.type "type") = true)
    (cf : PySem.W.findCls K (.ref c1a) (.type "type") "__init__" = some (.val (.ref f1b)))
    (g1f : PySem.W.nsIn K mainGlobals "TAB" = some (some (.int (9) j1f)))
    (g0y : PySem.W.nsIn K mainGlobals "LINE_FEED" = some (some (.int (10) j0y)))
    (g0V : PySem.W.nsIn K mainGlobals "RETURN" = some (some (.int (13) j0V)))
    (g02 : PySem.W.nsIn K mainGlobals "BLANK" = some (some (.int (32) j02)))
    (g0U : PySem.W.nsIn K mainGlobals "QUOTE" = some (some (.int (34) j0U)))
    (g0v : PySem.W.nsIn K mainGlobals "HASH" = some (some (.int (35) j0v)))
    (g0s : PySem.W.nsIn K mainGlobals "DOLLAR" = some (some (.int (36) j0s)))
    (g0D : PySem.W.nsIn K mainGlobals "MINUS" = some (some (.int (45) j0D)))
    (g1D : PySem.W.nsIn K mainGlobals "ZERO" = some (some (.int (48) j1D)))
    (g01 : PySem.W.nsIn K mainGlobals "BACKSLASH" = some (some (.int (92) j01)))
    (g1t : PySem.W.nsIn K mainGlobals "UNDERSCORE" = some (some (.int (95) j1t)))
    (g0x : PySem.W.nsIn K mainGlobals "LEFT_BRACE" = some (some (.int (123) j0x)))
    (g0W : PySem.W.nsIn K mainGlobals "RIGHT_BRACE" = some (some (.int (125) j0W)))
    (g0H : PySem.W.nsIn K mainGlobals "MOST_NAME_BYTES" = some (some (.int (32) j0H)))
    (g0F : PySem.W.nsIn K mainGlobals "MOST_DIGITS" = some (some (.int (30) j0F)))
    (g0J : PySem.W.nsIn K mainGlobals "NOTHING" = some (some (.int (-1) j0J)))
    (g0I : PySem.W.nsIn K mainGlobals "MOST_TEXT_BYTES" = some (some (.int (2048) j0I)))
    (g0G : PySem.W.nsIn K mainGlobals "MOST_LEVELS" = some (some (.int (40) j0G)))
    (g0E : PySem.W.nsIn K mainGlobals "MOST_DEPTH" = some (some (.int (40) j0E)))
    (g1M : PySem.W.nsIn K mainGlobals "len" = some none)
    (g1S : PySem.W.nsIn K mainGlobals "ord" = some none)
    (g1N : PySem.W.nsIn K mainGlobals "max" = some none)
    (g1W : PySem.W.nsIn K mainGlobals "tuple" = some none)
    (g1u : PySem.W.nsIn K mainGlobals "WORDS" = some (some (.ref t1u)))
    (h1u : ktupB K t1u wordsS = true)
    (g1e : PySem.W.nsIn K mainGlobals "SIGNS" = some (some (.ref t1e)))
    (h1e : ktupB K t1e signsS = true)
    (g00 : PySem.W.nsIn K mainGlobals "ATOM_BEGINNINGS" = some (some (.ref t00)))
    (h00 : ktupB K t00 atomsS = true)
    (g0t : PySem.W.nsIn K mainGlobals "ESCAPES" = some (some (.ref t0t)))
    (h0t : K.lookup t0t = some ⟨.type "dict", none, .dict e0t m0t, #[]⟩)
    (s0t : (t0t == sysModules) = false)
    (g0u : PySem.W.nsIn K mainGlobals "GRAMMAR" = some (some (.ref t0u)))
    (h0u : K.lookup t0u = some ⟨.type "dict", none, .dict e0u m0u, #[]⟩)
    (s0u : (t0u == sysModules) = false)
    (p0t : Paired (EntOk w) escD e0t.toList)
    (p0u : Paired (EntOk w) (gramS.map fun r => (Sum.inr r.1, V.ref (grOf e0u r.1))) e0u.toList)
    (q0u : (gramS.all fun r => ktupB K (grOf e0u r.1) r.2) = true)
    (g0w : PySem.W.nsIn K mainGlobals "KIND_NUMBERS" = some (some (.ref t0w)))
    (h0w : K.lookup t0w = some ⟨.type "dict", none, .dict e0w m0w, #[]⟩)
    (s0w : (t0w == sysModules) = false)
    (p0w : Paired (EntOk w) kindD e0w.toList)
    : ∃ fd : FuncData, (∀ (s : Shared) (us : List Value), us.length = (["text"] : List Str).length -> BindsTo s fd ⟨us, []⟩ ((["text"] : List Str).zip us)) /\ ∀ base : Heap, K.In base -> base.Ns mainGlobals mg -> FnOk P w K mg base CX0 9 fa fd ["text"] (spTree K) := by
  have e := hfa.symm.trans (PySem.W.mg_of X G a1V)
  cases e
  have nE : (escD.map (·.1)).Nodup := by decide +kernel
  have nG : ((gramS.map fun r => ((Sum.inr r.1 : Key), V.ref (grOf e0u r.1))).map (·.1)).Nodup := by rw [List.map_map]; exact gram_nodup
  have T : Tx P w K mg ⟨c1k, c08, c0O, c03, c0X, c1a, c1g, c1z, c1v, c0z, c0K, c1p, t1u, t1e, t00, t0t, t0u, grOf e0u⟩ := ⟨⟨pg1k, hd1k, po1k, sa1k⟩, n1n, n1o, n1l, ⟨pg08, hd08, po08, sa08⟩, n0q, n0p, n0r, n0n, n0k, n0i, ⟨pg0O, hd0O, po0O, sa0O⟩, n0S, n0T, n0R, n0P, ⟨pg03, hd03, po03, sa03⟩, n04, n06, n07, ⟨pg0X, hd0X, po0X, sa0X⟩, n18, n0Z, n15, n19, n11, n10, ⟨x1a, sa1a, ga1a, gh1a⟩, n1c, n1d, sub_of u1a, ⟨x1g, sa1g, ga1g, gh1g⟩, n1i, n1j, sub_of u1g, ⟨x1z, sa1z, ga1z, gh1z⟩, n1B, n1C, sub_of u1z, ⟨x1v, sa1v, ga1v, gh1v⟩, n1x, n1y, sub_of u1v, ⟨x0z, sa0z, ga0z, gh0z⟩, n0B, n0C, sub_of u0z, ⟨x0K, sa0K, ga0K, gh0K⟩, n0M, n0N, sub_of u0K, ⟨x1p, sa1p, ga1p, gh1p⟩, n1r, n1s, sub_of u1p, glv_int X G g1f, glv_int X G g0y, glv_int X G g0V, glv_int X G g02, glv_int X G g0U, glv_int X G g0v, glv_int X G g0s, glv_int X G g0D, glv_int X G g1D, glv_int X G g01, glv_int X G g1t, glv_int X G g0x, glv_int X G g0W, glv_int X G g0H, glv_int X G g0F, glv_int X G g0J, glv_int X G g0I, glv_int X G g0G, glv_int X G g0E, glv_ref X G g1u, ktup_of h1u, glv_ref X G g1e, ktup_of h1e, glv_ref X G g00, ktup_of h00, glv_ref X G g0t, kdict_of h0t s0t p0t nE, glv_ref X G g0u, kdict_of h0u s0u p0u nG, fun r hr => ktup_of (List.all_eq_true.mp q0u r hr), PySem.W.mg_none_of X G g1M, PySem.W.mg_none_of X G g1S, PySem.W.mg_none_of X G g1N, PySem.W.mg_none_of X G g1W⟩
  have F1b := fun_mk (st := s_Refusal_init) l1b b1b k1b
  have B1b := F1b.binds (ps := ["self", "number", "place"]) fun _ _ _ _ _ _ us hl => match us, hl with | [_, _, _], _ => rfl
  have F1h := fun_mk (st := s_TextTooLong_init) l1h b1h k1h
  have B1h := F1h.binds (ps := ["self"]) fun _ _ _ _ _ _ us hl => match us, hl with | [_], _ => rfl
  have F1A := fun_mk (st := s_WrongToken_init) l1A b1A k1A
  have B1A := F1A.binds (ps := ["self", "place"]) fun _ _ _ _ _ _ us hl => match us, hl with | [_, _], _ => rfl
  have F1w := fun_mk (st := s_WrongSyntax_init) l1w b1w k1w
  have B1w := F1w.binds (ps := ["self", "place"]) fun _ _ _ _ _ _ us hl => match us, hl with | [_, _], _ => rfl
  have F0A := fun_mk (st := s_LevelTooDeep_init) l0A b0A k0A
  have B0A := F0A.binds (ps := ["self", "place"]) fun _ _ _ _ _ _ us hl => match us, hl with | [_, _], _ => rfl
  have F0L := fun_mk (st := s_NameTwice_init) l0L b0L k0L
  have B0L := F0L.binds (ps := ["self", "place"]) fun _ _ _ _ _ _ us hl => match us, hl with | [_, _], _ => rfl
  have F1q := fun_mk (st := s_TreeTooDeep_init) l1q b1q k1q
  have B1q := F1q.binds (ps := ["self"]) fun _ _ _ _ _ _ us hl => match us, hl with | [_], _ => rfl
  have F0Q := fun_mk (st := s_Node_init) l0Q b0Q k0Q
  have B0Q := F0Q.binds (ps := ["self", "kind", "labels", "kids"]) fun _ _ _ _ _ _ us hl => match us, hl with | [_, _, _, _], _ => rfl
  have F1U := fun_mk (st := s_refuse_deep) l1U b1U k1U
  have B1U := F1U.binds (ps := ["tree"]) fun _ _ _ _ _ _ us hl => match us, hl with | [_], _ => rfl
  have F1P := fun_mk (st := s_nodes_of) l1P b1P k1P
  have B1P := F1P.binds (ps := ["tree"]) fun _ _ _ _ _ _ us hl => match us, hl with | [_], _ => rfl
  have F1R := fun_mk (st := s_numbers_of_labels) l1R b1R k1R
  have B1R := F1R.binds (ps := ["labels"]) fun _ _ _ _ _ _ us hl => match us, hl with | [_], _ => rfl
  have F1Q := fun_mk (st := s_numbers_of) l1Q b1Q k1Q
  have B1Q := F1Q.binds (ps := ["tree"]) fun _ _ _ _ _ _ us hl => match us, hl with | [_], _ => rfl
  have F1E := fun_mk (st := s_bytes_of) l1E b1E k1E
  have B1E := F1E.binds (ps := ["written"]) fun _ _ _ _ _ _ us hl => match us, hl with | [_], _ => rfl
  have F1m := fun_mk (st := s_Token_init) l1m b1m k1m
  have B1m := F1m.binds (ps := ["self", "kind", "place", "held"]) fun _ _ _ _ _ _ us hl => match us, hl with | [_, _, _, _], _ => rfl
  have F1K := fun_mk (st := s_is_letter) l1K b1K k1K
  have B1K := F1K.binds (ps := ["byte"]) fun _ _ _ _ _ _ us hl => match us, hl with | [_], _ => rfl
  have F1I := fun_mk (st := s_is_digit) l1I b1I k1I
  have B1I := F1I.binds (ps := ["byte"]) fun _ _ _ _ _ _ us hl => match us, hl with | [_], _ => rfl
  have F1J := fun_mk (st := s_is_in_name) l1J b1J k1J
  have B1J := F1J.binds (ps := ["byte"]) fun _ _ _ _ _ _ us hl => match us, hl with | [_], _ => rfl
  have F1L := fun_mk (st := s_kind_of_name) l1L b1L k1L
  have B1L := F1L.binds (ps := ["held"]) fun _ _ _ _ _ _ us hl => match us, hl with | [_], _ => rfl
  have F0l := fun_mk (st := s_Cutter_init) l0l b0l k0l
  have B0l := F0l.binds (ps := ["self", "text"]) fun _ _ _ _ _ _ us hl => match us, hl with | [_, _], _ => rfl
  have F0a := fun_mk (st := s_Cutter_byte_at) l0a b0a k0a
  have B0a := F0a.binds (ps := ["self", "place"]) fun _ _ _ _ _ _ us hl => match us, hl with | [_, _], _ => rfl
  have F09 := fun_mk (st := s_Cutter_add_token) l09 b09 k09
  have B09 := F09.binds (ps := ["self", "kind", "length", "held"]) fun _ _ _ _ _ _ us hl => match us, hl with | [_, _, _, _], _ => rfl
  have F0e := fun_mk (st := s_Cutter_cut_outside) l0e b0e k0e
  have B0e := F0e.binds (ps := ["self"]) fun _ _ _ _ _ _ us hl => match us, hl with | [_], _ => rfl
  have F0o := fun_mk (st := s_Cutter_pass_comment) l0o b0o k0o
  have B0o := F0o.binds (ps := ["self"]) fun _ _ _ _ _ _ us hl => match us, hl with | [_], _ => rfl
  have F0c := fun_mk (st := s_Cutter_cut_name) l0c b0c k0c
  have B0c := F0c.binds (ps := ["self"]) fun _ _ _ _ _ _ us hl => match us, hl with | [_], _ => rfl
  have F0d := fun_mk (st := s_Cutter_cut_number) l0d b0d k0d
  have B0d := F0d.binds (ps := ["self"]) fun _ _ _ _ _ _ us hl => match us, hl with | [_], _ => rfl
  have F0g := fun_mk (st := s_Cutter_cut_right_brace) l0g b0g k0g
  have B0g := F0g.binds (ps := ["self"]) fun _ _ _ _ _ _ us hl => match us, hl with | [_], _ => rfl
  have F0h := fun_mk (st := s_Cutter_cut_sign) l0h b0h k0h
  have B0h := F0h.binds (ps := ["self"]) fun _ _ _ _ _ _ us hl => match us, hl with | [_], _ => rfl
  have F0b := fun_mk (st := s_Cutter_cut_literal) l0b b0b k0b
  have B0b := F0b.binds (ps := ["self"]) fun _ _ _ _ _ _ us hl => match us, hl with | [_], _ => rfl
  have F0f := fun_mk (st := s_Cutter_cut_piece) l0f b0f k0f
  have B0f := F0f.binds (ps := ["self"]) fun _ _ _ _ _ _ us hl => match us, hl with | [_], _ => rfl
  have F0m := fun_mk (st := s_Cutter_is_piece_over) l0m b0m k0m
  have B0m := F0m.binds (ps := ["self"]) fun _ _ _ _ _ _ us hl => match us, hl with | [_], _ => rfl
  have F0j := fun_mk (st := s_Cutter_gather_byte) l0j b0j k0j
  have B0j := F0j.binds (ps := ["self"]) fun _ _ _ _ _ _ us hl => match us, hl with | [_], _ => rfl
  have F1G := fun_mk (st := s_cut) l1G b1G k1G
  have B1G := F1G.binds (ps := ["text"]) fun _ _ _ _ _ _ us hl => match us, hl with | [_], _ => rfl
  have F05 := fun_mk (st := s_Begun_init) l05 b05 k05
  have B05 := F05.binds (ps := ["self", "first"]) fun _ _ _ _ _ _ us hl => match us, hl with | [_, _], _ => rfl
  have F1H := fun_mk (st := s_fits) l1H b1H k1H
  have B1H := F1H.binds (ps := ["first", "kind"]) fun _ _ _ _ _ _ us hl => match us, hl with | [_, _], _ => rfl
  have F1F := fun_mk (st := s_choose) l1F b1F k1F
  have B1F := F1F.binds (ps := ["part", "kind"]) fun _ _ _ _ _ _ us hl => match us, hl with | [_, _], _ => rfl
  have F1O := fun_mk (st := s_meet_name) l1O b1O k1O
  have B1O := F1O.binds (ps := ["names", "token"]) fun _ _ _ _ _ _ us hl => match us, hl with | [_, _], _ => rfl
  have F14 := fun_mk (st := s_Reader_init) l14 b14 k14
  have B14 := F14.binds (ps := ["self", "tokens"]) fun _ _ _ _ _ _ us hl => match us, hl with | [_, _], _ => rfl
  have F17 := fun_mk (st := s_Reader_step) l17 b17 k17
  have B17 := F17.binds (ps := ["self"]) fun _ _ _ _ _ _ us hl => match us, hl with | [_], _ => rfl
  have F16 := fun_mk (st := s_Reader_read_token) l16 b16 k16
  have B16 := F16.binds (ps := ["self", "kind"]) fun _ _ _ _ _ _ us hl => match us, hl with | [_, _], _ => rfl
  have F0Y := fun_mk (st := s_Reader_act) l0Y b0Y k0Y
  have B0Y := F0Y.binds (ps := ["self", "action"]) fun _ _ _ _ _ _ us hl => match us, hl with | [_, _], _ => rfl
  have F13 := fun_mk (st := s_Reader_enter_level) l13 b13 k13
  have B13 := F13.binds (ps := ["self"]) fun _ _ _ _ _ _ us hl => match us, hl with | [_], _ => rfl
  have F12 := fun_mk (st := s_Reader_end_node) l12 b12 k12
  have B12 := F12.binds (ps := ["self", "kind"]) fun _ _ _ _ _ _ us hl => match us, hl with | [_, _], _ => rfl
  have F1T := fun_mk (st := s_read) l1T b1T k1T
  have B1T := F1T.binds (ps := ["text"]) fun _ _ _ _ _ _ us hl => match us, hl with | [_], _ => rfl
  have F1V := fun_mk (st := s_tree) l1V b1V k1V
  have B1V := F1V.binds (ps := ["text"]) fun _ _ _ _ _ _ us hl => match us, hl with | [_], _ => rfl
  refine ⟨PySem.W.fnOf "tree" "tree" (defArgs s_tree) (defBody s_tree) (defScope s_tree) .none v1V d1V p1V y1V e1V t1V, fun s us hu => match us, hu with | [_], _ => .of_eq rfl, fun base _ _ => ?_⟩
  have O1b := ok_Refusal_init (P := P) (w := w) (mg := mg) (base := base) F1b
  have GR : ClsAt P w K mg base 1 c1a "Refusal" "__init__" ["self", "number", "place"] (spRef K) := ⟨f1b, _, PySem.W.mg_of X G a1a, ⟨cg, cr, cf, k1b⟩, O1b, B1b⟩
  have O1h := ok_TextTooLong_init (P := P) (w := w) (mg := mg) (base := base) F1h T GR
  have O1A := ok_WrongToken_init (P := P) (w := w) (mg := mg) (base := base) F1A T GR
  have O1w := ok_WrongSyntax_init (P := P) (w := w) (mg := mg) (base := base) F1w T GR
  have O0A := ok_LevelTooDeep_init (P := P) (w := w) (mg := mg) (base := base) F0A T GR
  have O0L := ok_NameTwice_init (P := P) (w := w) (mg := mg) (base := base) F0L T GR
  have O1q := ok_TreeTooDeep_init (P := P) (w := w) (mg := mg) (base := base) F1q T GR
  have O1K := ok_is_letter (P := P) (w := w) (mg := mg) (base := base) F1K
  have O1I := ok_is_digit (P := P) (w := w) (mg := mg) (base := base) F1I
  have O1J := ok_is_in_name (P := P) (w := w) (mg := mg) (base := base) F1J T ⟨f1K, _, PySem.W.mg_of X G a1K, O1K, k1K, B1K⟩ ⟨f1I, _, PySem.W.mg_of X G a1I, O1I, k1I, B1I⟩
  have O1E := ok_bytes_of (P := P) (w := w) (mg := mg) (base := base) F1E T
  have O1L := ok_kind_of_name (P := P) (w := w) (mg := mg) (base := base) F1L T ⟨f1E, _, PySem.W.mg_of X G a1E, O1E, k1E, B1E⟩
  have O1m := ok_Token_init (P := P) (w := w) (mg := mg) (base := base) F1m T
  have O0l := ok_Cutter_init (P := P) (w := w) (mg := mg) (base := base) F0l T
  have O0a := ok_byte_at (P := P) (w := w) (mg := mg) (base := base) F0a T
  have O09 := ok_add_token (P := P) (w := w) (mg := mg) (base := base) F09 T ⟨f1m, _, PySem.W.mg_of X G a1k, ⟨mk1k, a1m, i1m, kc1k⟩, O1m, B1m⟩
  have O0o := ok_pass_comment (P := P) (w := w) (mg := mg) (base := base) F0o T ⟨f0a, _, ⟨a0a, i0a, k0a⟩, O0a, B0a⟩
  have O0c := ok_cut_name (P := P) (w := w) (mg := mg) (base := base) F0c T ⟨f0a, _, ⟨a0a, i0a, k0a⟩, O0a, B0a⟩ ⟨f1J, _, PySem.W.mg_of X G a1J, O1J, k1J, B1J⟩ ⟨f1L, _, PySem.W.mg_of X G a1L, O1L, k1L, B1L⟩ ⟨f09, _, ⟨a09, i09, k09⟩, O09, B09⟩ ⟨f1A, _, PySem.W.mg_of X G a1z, ⟨T.x_WrongToken, a1A, i1A, kc1z⟩, O1A, B1A⟩
  have O0d := ok_cut_number (P := P) (w := w) (mg := mg) (base := base) F0d T ⟨f0a, _, ⟨a0a, i0a, k0a⟩, O0a, B0a⟩ ⟨f1I, _, PySem.W.mg_of X G a1I, O1I, k1I, B1I⟩ ⟨f09, _, ⟨a09, i09, k09⟩, O09, B09⟩ ⟨f1A, _, PySem.W.mg_of X G a1z, ⟨T.x_WrongToken, a1A, i1A, kc1z⟩, O1A, B1A⟩
  have O0g := ok_cut_right_brace (P := P) (w := w) (mg := mg) (base := base) F0g T ⟨f09, _, ⟨a09, i09, k09⟩, O09, B09⟩
  have O0h := ok_cut_sign (P := P) (w := w) (mg := mg) (base := base) F0h T ⟨f1E, _, PySem.W.mg_of X G a1E, O1E, k1E, B1E⟩ ⟨f09, _, ⟨a09, i09, k09⟩, O09, B09⟩ ⟨f1A, _, PySem.W.mg_of X G a1z, ⟨T.x_WrongToken, a1A, i1A, kc1z⟩, O1A, B1A⟩
  have O0m := ok_is_piece_over (P := P) (w := w) (mg := mg) (base := base) F0m T ⟨f0a, _, ⟨a0a, i0a, k0a⟩, O0a, B0a⟩
  have O0j := ok_gather_byte (P := P) (w := w) (mg := mg) (base := base) F0j T ⟨f0a, _, ⟨a0a, i0a, k0a⟩, O0a, B0a⟩ ⟨f1A, _, PySem.W.mg_of X G a1z, ⟨T.x_WrongToken, a1A, i1A, kc1z⟩, O1A, B1A⟩
  have O0f := ok_cut_piece (P := P) (w := w) (mg := mg) (base := base) F0f T ⟨f0m, _, ⟨a0m, i0m, k0m⟩, O0m, B0m⟩ ⟨f0j, _, ⟨a0j, i0j, k0j⟩, O0j, B0j⟩ ⟨f1m, _, PySem.W.mg_of X G a1k, ⟨mk1k, a1m, i1m, kc1k⟩, O1m, B1m⟩
  have O0b := ok_cut_literal (P := P) (w := w) (mg := mg) (base := base) F0b T ⟨f0a, _, ⟨a0a, i0a, k0a⟩, O0a, B0a⟩ ⟨f0f, _, ⟨a0f, i0f, k0f⟩, O0f, B0f⟩ ⟨f09, _, ⟨a09, i09, k09⟩, O09, B09⟩ ⟨f1A, _, PySem.W.mg_of X G a1z, ⟨T.x_WrongToken, a1A, i1A, kc1z⟩, O1A, B1A⟩
  have O0e := ok_cut_outside (P := P) (w := w) (mg := mg) (base := base) F0e T ⟨f0a, _, ⟨a0a, i0a, k0a⟩, O0a, B0a⟩ ⟨f09, _, ⟨a09, i09, k09⟩, O09, B09⟩ ⟨f1K, _, PySem.W.mg_of X G a1K, O1K, k1K, B1K⟩ ⟨f1I, _, PySem.W.mg_of X G a1I, O1I, k1I, B1I⟩ ⟨f0o, _, ⟨a0o, i0o, k0o⟩, O0o, B0o⟩ ⟨f0c, _, ⟨a0c, i0c, k0c⟩, O0c, B0c⟩ ⟨f0d, _, ⟨a0d, i0d, k0d⟩, O0d, B0d⟩ ⟨f0g, _, ⟨a0g, i0g, k0g⟩, O0g, B0g⟩ ⟨f0h, _, ⟨a0h, i0h, k0h⟩, O0h, B0h⟩
  have O1G := ok_cut (P := P) (w := w) (mg := mg) (base := base) F1G T ⟨f0l, _, PySem.W.mg_of X G a08, ⟨mk08, a0l, i0l, kc08⟩, O0l, B0l⟩ ⟨f0b, _, ⟨a0b, i0b, k0b⟩, O0b, B0b⟩ ⟨f0e, _, ⟨a0e, i0e, k0e⟩, O0e, B0e⟩
  have O1H := ok_fits (P := P) (w := w) (mg := mg) (base := base) F1H T
  have O1F := ok_choose (P := P) (w := w) (mg := mg) (base := base) F1F T ⟨f1H, _, PySem.W.mg_of X G a1H, O1H, k1H, B1H⟩
  have O1O := ok_meet_name (P := P) (w := w) (mg := mg) (base := base) F1O T ⟨f0L, _, PySem.W.mg_of X G a0K, ⟨T.x_NameTwice, a0L, i0L, kc0K⟩, O0L, B0L⟩
  have O0Q := ok_Node_init (P := P) (w := w) (mg := mg) (base := base) F0Q T
  have O05 := ok_Begun_init (P := P) (w := w) (mg := mg) (base := base) F05 T
  have O14 := ok_Reader_init (P := P) (w := w) (mg := mg) (base := base) F14 T
  have O16 := ok_read_token (P := P) (w := w) (mg := mg) (base := base) F16 T ⟨f1w, _, PySem.W.mg_of X G a1v, ⟨T.x_WrongSyntax, a1w, i1w, kc1v⟩, O1w, B1w⟩
  have O13 := ok_enter_level (P := P) (w := w) (mg := mg) (base := base) F13 T ⟨f0A, _, PySem.W.mg_of X G a0z, ⟨T.x_LevelTooDeep, a0A, i0A, kc0z⟩, O0A, B0A⟩
  have O12 := ok_end_node (P := P) (w := w) (mg := mg) (base := base) F12 T ⟨f0Q, _, PySem.W.mg_of X G a0O, ⟨mk0O, a0Q, i0Q, kc0O⟩, O0Q, B0Q⟩
  have O0Y := ok_act (P := P) (w := w) (mg := mg) (base := base) F0Y T ⟨f05, _, PySem.W.mg_of X G a03, ⟨mk03, a05, i05, kc03⟩, O05, B05⟩ ⟨f1O, _, PySem.W.mg_of X G a1O, O1O, k1O, B1O⟩ ⟨f13, _, ⟨a13, i13, k13⟩, O13, B13⟩ ⟨f12, _, ⟨a12, i12, k12⟩, O12, B12⟩
  have O17 := ok_step (P := P) (w := w) (mg := mg) (base := base) F17 T ⟨f1F, _, PySem.W.mg_of X G a1F, O1F, k1F, B1F⟩ ⟨f0Y, _, ⟨a0Y, i0Y, k0Y⟩, O0Y, B0Y⟩ ⟨f16, _, ⟨a16, i16, k16⟩, O16, B16⟩
  have O1U := ok_refuse_deep (P := P) (w := w) (mg := mg) (base := base) F1U T ⟨f1q, _, PySem.W.mg_of X G a1p, ⟨T.x_TreeTooDeep, a1q, i1q, kc1p⟩, O1q, B1q⟩
  have O1T := ok_read (P := P) (w := w) (mg := mg) (base := base) F1T T ⟨f1h, _, PySem.W.mg_of X G a1g, ⟨T.x_TextTooLong, a1h, i1h, kc1g⟩, O1h, B1h⟩ ⟨f1G, _, PySem.W.mg_of X G a1G, O1G, k1G, B1G⟩ ⟨f14, _, PySem.W.mg_of X G a0X, ⟨mk0X, a14, i14, kc0X⟩, O14, B14⟩ ⟨f17, _, ⟨a17, i17, k17⟩, O17, B17⟩ ⟨f1U, _, PySem.W.mg_of X G a1U, O1U, k1U, B1U⟩
  have nK : (kindD.map (·.1)).Nodup := by decide +kernel
  have O1P := ok_nodes_of (P := P) (w := w) (mg := mg) (base := base) F1P T
  have O1R := ok_numbers_of_labels (P := P) (w := w) (mg := mg) (base := base) F1R T
  have O1Q := ok_numbers_of (P := P) (w := w) (mg := mg) (base := base) F1Q T (glv_ref X G g0w) (kdict_of h0w s0w p0w nK) ⟨f1P, _, PySem.W.mg_of X G a1P, O1P, k1P, B1P⟩ ⟨f1R, _, PySem.W.mg_of X G a1R, O1R, k1R, B1R⟩
  exact ok_tree (P := P) (w := w) (mg := mg) (base := base) F1V T (PySem.W.mg_of X G a1a) ⟨f1T, _, PySem.W.mg_of X G a1T, O1T, k1T, B1T⟩ ⟨f1Q, _, PySem.W.mg_of X G a1Q, O1Q, k1Q, B1Q⟩
end RT
end
def PySem.W.Fast.tw11314640406575931888 := ()
def PySem.W.Fast.tw12311770953068874987 := ()
def PySem.W.Fast.tw7814116414653833724 := ()
def PySem.W.Fast.tw15268582385733520439 := ()
def PySem.W.Fast.tw15978984814856427385 := ()
def PySem.W.Fast.tw6362925508996189990 := ()
def PySem.W.Fast.tw5740441742496837341 := ()
def PySem.W.Fast.tw3230242943267956332 := ()
def PySem.W.Fast.tw11290047863064186803 := ()
def PySem.W.Fast.tw4243228004638106193 := ()
def PySem.W.Fast.tw16414567830968862155 := ()
def PySem.W.Fast.tw4734746088320026747 := ()
def PySem.W.Fast.tw16098422263315519577 := ()
def PySem.W.Fast.tw5751445104869921866 := ()
def PySem.W.Fast.tw16811289213159071871 := ()
def PySem.W.Fast.tw9797082020279192416 := ()
def PySem.W.Fast.tw3333309705484881964 := ()
def PySem.W.Fast.tw10448707811393672291 := ()
def PySem.W.Fast.tw6269682126105242704 := ()
def PySem.W.Fast.tw6997325276992766471 := ()
def PySem.W.Fast.tw10469952136821016616 := ()
def PySem.W.Fast.tw10513420850666094956 := ()
def PySem.W.Fast.tw5118424804239329579 := ()
def PySem.W.Fast.tw9532934438983990171 := ()
def PySem.W.Fast.tw8989440495805715606 := ()
def PySem.W.Fast.tw10732786788437112420 := ()
def PySem.W.Fast.tw12517813740628541132 := ()
def PySem.W.Fast.tw7261441950530978926 := ()
def PySem.W.Fast.tw2518988592509583109 := ()
def PySem.W.Fast.tw6797160970051939734 := ()
def PySem.W.Fast.tw15344908971579541469 := ()
def PySem.W.Fast.tw7149583996393018896 := ()
def PySem.W.Fast.tw9514970569766779596 := ()
def PySem.W.Fast.tw4967678116232156734 := ()
def PySem.W.Fast.tw290816068802657428 := ()
def PySem.W.Fast.tw8106668533302838575 := ()
def PySem.W.Fast.tw16702286577781028413 := ()
def PySem.W.Fast.tw6082210653523078116 := ()
def PySem.W.Fast.tw369750147918068894 := ()
def PySem.W.Fast.tw14724953284937664967 := ()
def PySem.W.Fast.tw10631119993172183589 := ()
def PySem.W.Fast.tw2504232011846987825 := ()
def PySem.W.Fast.tw14999788818580913254 := ()
def PySem.W.Fast.tw16058273604931516892 := ()
def PySem.W.Fast.tw12293793646976418470 := ()
def PySem.W.Fast.tw1941983273256955885 := ()
def PySem.W.Fast.tw18403928017101180590 := ()
def PySem.W.Fast.tw3027873146935644598 := ()
def PySem.W.Fast.tw10730643463199230233 := ()
def PySem.W.Fast.tw1316449496614195680 := ()
def PySem.W.Fast.tw11197747984760124402 := ()
def PySem.W.Fast.tw16699891752100764341 := ()
def PySem.W.Fast.tw818110061773424257 := ()
def PySem.W.Fast.tw16110329475690038168 := ()
def PySem.W.Fast.tw9751270165958006666 := ()
def PySem.W.Fast.tw3191782756512521137 := ()
def PySem.W.Fast.tw7136350089847054388 := ()
def PySem.W.Fast.tw4167907179679059131 := ()
def PySem.W.Fast.tw8844336106431206965 := ()
def PySem.W.Fast.tw10005484744111728558 := ()
def PySem.W.Fast.tw6049777689146174780 := ()
def PySem.W.Fast.tw11465323270068686512 := ()
def PySem.W.Fast.tw293222017643737373 := ()
def PySem.W.Fast.tw3507190741772125019 := ()
def PySem.W.Fast.tw345136219906031247 := ()
def PySem.W.Fast.tw10340256076043303213 := ()
def PySem.W.Fast.tw15283911114193984335 := ()
def PySem.W.Fast.tw15273841752826164197 := ()
def PySem.W.Fast.tw18413643707867229051 := ()
def PySem.W.Fast.tw14277381166564350974 := ()
def PySem.W.Fast.tw11444574988554052976 := ()
def PySem.W.Fast.tw5811525348507627062 := ()
def PySem.W.Fast.tw186968255439583595 := ()
def PySem.W.Fast.tw7160871562354055829 := ()
def PySem.W.Fast.tw11674832616543302112 := ()
def PySem.W.Fast.tw8098693678949623772 := ()
def PySem.W.Fast.tw6151166636544051704 := ()
def PySem.W.Fast.tw11401722630014743946 := ()
open PySem PySem.W PyProof.Rows
set_option Elab.async false
set_option maxRecDepth 100000 in
set_option maxHeartbeats 0 in
theorem PySem.Challenge.cw_recipetexts_s03_tree_holds : PySem.Challenge.rw_recipetexts_s03_tree.Holds := by
  w_on; k_headS; (case hw => exact ⟨[.list []], by decide +kernel, by decide +kernel⟩)
  k_fillS
  refine L2.walk_specK (r := PySem.Challenge.rw_recipetexts_s03_tree) (k := 9) (CX := L2.CX0) (ps := ["text"]) (sp := RT.spTree) (by decide +kernel) rfl rfl ⟨rfl, by decide, by decide⟩ (fun w h Y => PySem.W.kIn_of Y) ?F ?S (fun _ _ _ _ z => z)
  case F =>
    intro w mg fa h Y KX G hmg
    refine' RT.all_mk KX G hmg ?a1k ?a08 ?a0O ?a03 ?a0X ?a1a ?a1g ?a1z ?a1v ?a0z ?a0K ?a1p ?a1b ?a1h ?a1A ?a1w ?a0A ?a0L ?a1q ?a0Q ?a1U ?a1P ?a1R ?a1Q ?a1E ?a1m ?a1K ?a1I ?a1J ?a1L ?a0l ?a0a ?a09 ?a0e ?a0o ?a0c ?a0d ?a0g ?a0h ?a0b ?a0f ?a0m ?a0j ?a1G ?a05 ?a1H ?a1F ?a1O ?a14 ?a17 ?a16 ?a0Y ?a13 ?a12 ?a1T ?a1V ?l1b ?b1b ?k1b ?i1b ?l1h ?b1h ?k1h ?i1h ?l1A ?b1A ?k1A ?i1A ?l1w ?b1w ?k1w ?i1w ?l0A ?b0A ?k0A ?i0A ?l0L ?b0L ?k0L ?i0L ?l1q ?b1q ?k1q ?i1q ?l0Q ?b0Q ?k0Q ?i0Q ?l1U ?b1U ?k1U ?l1P ?b1P ?k1P ?l1R ?b1R ?k1R ?l1Q ?b1Q ?k1Q ?l1E ?b1E ?k1E ?l1m ?b1m ?k1m ?i1m ?l1K ?b1K ?k1K ?l1I ?b1I ?k1I ?l1J ?b1J ?k1J ?l1L ?b1L ?k1L ?l0l ?b0l ?k0l ?i0l ?l0a ?b0a ?k0a ?i0a ?l09 ?b09 ?k09 ?i09 ?l0e ?b0e ?k0e ?i0e ?l0o ?b0o ?k0o ?i0o ?l0c ?b0c ?k0c ?i0c ?l0d ?b0d ?k0d ?i0d ?l0g ?b0g ?k0g ?i0g ?l0h ?b0h ?k0h ?i0h ?l0b ?b0b ?k0b ?i0b ?l0f ?b0f ?k0f ?i0f ?l0m ?b0m ?k0m ?i0m ?l0j ?b0j ?k0j ?i0j ?l1G ?b1G ?k1G ?l05 ?b05 ?k05 ?i05 ?l1H ?b1H ?k1H ?l1F ?b1F ?k1F ?l1O ?b1O ?k1O ?l14 ?b14 ?k14 ?i14 ?l17 ?b17 ?k17 ?i17 ?l16 ?b16 ?k16 ?i16 ?l0Y ?b0Y ?k0Y ?i0Y ?l13 ?b13 ?k13 ?i13 ?l12 ?b12 ?k12 ?i12 ?l1T ?b1T ?k1T ?l1V ?b1V ?k1V ?pg1k ?hd1k ?po1k ?sa1k ?mk1k ?kc1k ?n1n ?n1o ?n1l ?pg08 ?hd08 ?po08 ?sa08 ?mk08 ?kc08 ?n0q ?n0p ?n0r ?n0n ?n0k ?n0i ?pg0O ?hd0O ?po0O ?sa0O ?mk0O ?kc0O ?n0S ?n0T ?n0R ?n0P ?pg03 ?hd03 ?po03 ?sa03 ?mk03 ?kc03 ?n04 ?n06 ?n07 ?pg0X ?hd0X ?po0X ?sa0X ?mk0X ?kc0X ?n18 ?n0Z ?n15 ?n19 ?n11 ?n10 ?x1a ?sa1a ?ga1a ?gh1a ?u1a ?kc1a ?n1c ?n1d ?x1g ?sa1g ?ga1g ?gh1g ?u1g ?kc1g ?n1i ?n1j ?x1z ?sa1z ?ga1z ?gh1z ?u1z ?kc1z ?n1B ?n1C ?x1v ?sa1v ?ga1v ?gh1v ?u1v ?kc1v ?n1x ?n1y ?x0z ?sa0z ?ga0z ?gh0z ?u0z ?kc0z ?n0B ?n0C ?x0K ?sa0K ?ga0K ?gh0K ?u0K ?kc0K ?n0M ?n0N ?x1p ?sa1p ?ga1p ?gh1p ?u1p ?kc1p ?n1r ?n1s ?cg ?cr ?cf ?g1f ?g0y ?g0V ?g02 ?g0U ?g0v ?g0s ?g0D ?g1D ?g01 ?g1t ?g0x ?g0W ?g0H ?g0F ?g0J ?g0I ?g0G ?g0E ?g1M ?g1S ?g1N ?g1W ?g1u ?h1u ?g1e ?h1e ?g00 ?h00 ?g0t ?h0t ?s0t ?g0u ?h0u ?s0u ?p0t ?p0u ?q0u ?g0w ?h0w ?s0w ?p0w
    (case a1k => k_is)
    (case a08 => k_is)
    (case a0O => k_is)
    (case a03 => k_is)
    (case a0X => k_is)
    (case a1a => k_is)
    (case a1g => k_is)
    (case a1z => k_is)
    (case a1v => k_is)
    (case a0z => k_is)
    (case a0K => k_is)
    (case a1p => k_is)
    (case a1b => k_is)
    (case a1h => k_is)
    (case a1A => k_is)
    (case a1w => k_is)
    (case a0A => k_is)
    (case a0L => k_is)
    (case a1q => k_is)
    (case a0Q => k_is)
    (case a1U => k_is)
    (case a1P => k_is)
    (case a1R => k_is)
    (case a1Q => k_is)
    (case a1E => k_is)
    (case a1m => k_is)
    (case a1K => k_is)
    (case a1I => k_is)
    (case a1J => k_is)
    (case a1L => k_is)
    (case a0l => k_is)
    (case a0a => k_is)
    (case a09 => k_is)
    (case a0e => k_is)
    (case a0o => k_is)
    (case a0c => k_is)
    (case a0d => k_is)
    (case a0g => k_is)
    (case a0h => k_is)
    (case a0b => k_is)
    (case a0f => k_is)
    (case a0m => k_is)
    (case a0j => k_is)
    (case a1G => k_is)
    (case a05 => k_is)
    (case a1H => k_is)
    (case a1F => k_is)
    (case a1O => k_is)
    (case a14 => k_is)
    (case a17 => k_is)
    (case a16 => k_is)
    (case a0Y => k_is)
    (case a13 => k_is)
    (case a12 => k_is)
    (case a1T => k_is)
    (case a1V => k_is)
    (case l1b => k_is)
    (case b1b => k_is)
    (case k1b => k_is)
    (case i1b => k_is)
    (case l1h => k_is)
    (case b1h => k_is)
    (case k1h => k_is)
    (case i1h => k_is)
    (case l1A => k_is)
    (case b1A => k_is)
    (case k1A => k_is)
    (case i1A => k_is)
    (case l1w => k_is)
    (case b1w => k_is)
    (case k1w => k_is)
    (case i1w => k_is)
    (case l0A => k_is)
    (case b0A => k_is)
    (case k0A => k_is)
    (case i0A => k_is)
    (case l0L => k_is)
    (case b0L => k_is)
    (case k0L => k_is)
    (case i0L => k_is)
    (case l1q => k_is)
    (case b1q => k_is)
    (case k1q => k_is)
    (case i1q => k_is)
    (case l0Q => k_is)
    (case b0Q => k_is)
    (case k0Q => k_is)
    (case i0Q => k_is)
    (case l1U => k_is)
    (case b1U => k_is)
    (case k1U => k_is)
    (case l1P => k_is)
    (case b1P => k_is)
    (case k1P => k_is)
    (case l1R => k_is)
    (case b1R => k_is)
    (case k1R => k_is)
    (case l1Q => k_is)
    (case b1Q => k_is)
    (case k1Q => k_is)
    (case l1E => k_is)
    (case b1E => k_is)
    (case k1E => k_is)
    (case l1m => k_is)
    (case b1m => k_is)
    (case k1m => k_is)
    (case i1m => k_is)
    (case l1K => k_is)
    (case b1K => k_is)
    (case k1K => k_is)
    (case l1I => k_is)
    (case b1I => k_is)
    (case k1I => k_is)
    (case l1J => k_is)
    (case b1J => k_is)
    (case k1J => k_is)
    (case l1L => k_is)
    (case b1L => k_is)
    (case k1L => k_is)
    (case l0l => k_is)
    (case b0l => k_is)
    (case k0l => k_is)
    (case i0l => k_is)
    (case l0a => k_is)
    (case b0a => k_is)
    (case k0a => k_is)
    (case i0a => k_is)
    (case l09 => k_is)
    (case b09 => k_is)
    (case k09 => k_is)
    (case i09 => k_is)
    (case l0e => k_is)
    (case b0e => k_is)
    (case k0e => k_is)
    (case i0e => k_is)
    (case l0o => k_is)
    (case b0o => k_is)
    (case k0o => k_is)
    (case i0o => k_is)
    (case l0c => k_is)
    (case b0c => k_is)
    (case k0c => k_is)
    (case i0c => k_is)
    (case l0d => k_is)
    (case b0d => k_is)
    (case k0d => k_is)
    (case i0d => k_is)
    (case l0g => k_is)
    (case b0g => k_is)
    (case k0g => k_is)
    (case i0g => k_is)
    (case l0h => k_is)
    (case b0h => k_is)
    (case k0h => k_is)
    (case i0h => k_is)
    (case l0b => k_is)
    (case b0b => k_is)
    (case k0b => k_is)
    (case i0b => k_is)
    (case l0f => k_is)
    (case b0f => k_is)
    (case k0f => k_is)
    (case i0f => k_is)
    (case l0m => k_is)
    (case b0m => k_is)
    (case k0m => k_is)
    (case i0m => k_is)
    (case l0j => k_is)
    (case b0j => k_is)
    (case k0j => k_is)
    (case i0j => k_is)
    (case l1G => k_is)
    (case b1G => k_is)
    (case k1G => k_is)
    (case l05 => k_is)
    (case b05 => k_is)
    (case k05 => k_is)
    (case i05 => k_is)
    (case l1H => k_is)
    (case b1H => k_is)
    (case k1H => k_is)
    (case l1F => k_is)
    (case b1F => k_is)
    (case k1F => k_is)
    (case l1O => k_is)
    (case b1O => k_is)
    (case k1O => k_is)
    (case l14 => k_is)
    (case b14 => k_is)
    (case k14 => k_is)
    (case i14 => k_is)
    (case l17 => k_is)
    (case b17 => k_is)
    (case k17 => k_is)
    (case i17 => k_is)
    (case l16 => k_is)
    (case b16 => k_is)
    (case k16 => k_is)
    (case i16 => k_is)
    (case l0Y => k_is)
    (case b0Y => k_is)
    (case k0Y => k_is)
    (case i0Y => k_is)
    (case l13 => k_is)
    (case b13 => k_is)
    (case k13 => k_is)
    (case i13 => k_is)
    (case l12 => k_is)
    (case b12 => k_is)
    (case k12 => k_is)
    (case i12 => k_is)
    (case l1T => k_is)
    (case b1T => k_is)
    (case k1T => k_is)
    (case l1V => k_is)
    (case b1V => k_is)
    (case k1V => k_is)
    (case pg1k => k_is)
    (case hd1k => k_is)
    (case po1k => k_is)
    (case sa1k => k_is)
    (case mk1k => k_is)
    (case kc1k => k_is)
    (case n1n => k_is)
    (case n1o => k_is)
    (case n1l => k_is)
    (case pg08 => k_is)
    (case hd08 => k_is)
    (case po08 => k_is)
    (case sa08 => k_is)
    (case mk08 => k_is)
    (case kc08 => k_is)
    (case n0q => k_is)
    (case n0p => k_is)
    (case n0r => k_is)
    (case n0n => k_is)
    (case n0k => k_is)
    (case n0i => k_is)
    (case pg0O => k_is)
    (case hd0O => k_is)
    (case po0O => k_is)
    (case sa0O => k_is)
    (case mk0O => k_is)
    (case kc0O => k_is)
    (case n0S => k_is)
    (case n0T => k_is)
    (case n0R => k_is)
    (case n0P => k_is)
    (case pg03 => k_is)
    (case hd03 => k_is)
    (case po03 => k_is)
    (case sa03 => k_is)
    (case mk03 => k_is)
    (case kc03 => k_is)
    (case n04 => k_is)
    (case n06 => k_is)
    (case n07 => k_is)
    (case pg0X => k_is)
    (case hd0X => k_is)
    (case po0X => k_is)
    (case sa0X => k_is)
    (case mk0X => k_is)
    (case kc0X => k_is)
    (case n18 => k_is)
    (case n0Z => k_is)
    (case n15 => k_is)
    (case n19 => k_is)
    (case n11 => k_is)
    (case n10 => k_is)
    (case x1a => kernel_rfl)
    (case sa1a => k_is)
    (case ga1a => k_is)
    (case gh1a => k_is)
    (case u1a => kernel_rfl)
    (case kc1a => k_is)
    (case n1c => k_is)
    (case n1d => k_is)
    (case x1g => kernel_rfl)
    (case sa1g => k_is)
    (case ga1g => k_is)
    (case gh1g => k_is)
    (case u1g => kernel_rfl)
    (case kc1g => k_is)
    (case n1i => k_is)
    (case n1j => k_is)
    (case x1z => kernel_rfl)
    (case sa1z => k_is)
    (case ga1z => k_is)
    (case gh1z => k_is)
    (case u1z => kernel_rfl)
    (case kc1z => k_is)
    (case n1B => k_is)
    (case n1C => k_is)
    (case x1v => kernel_rfl)
    (case sa1v => k_is)
    (case ga1v => k_is)
    (case gh1v => k_is)
    (case u1v => kernel_rfl)
    (case kc1v => k_is)
    (case n1x => k_is)
    (case n1y => k_is)
    (case x0z => kernel_rfl)
    (case sa0z => k_is)
    (case ga0z => k_is)
    (case gh0z => k_is)
    (case u0z => kernel_rfl)
    (case kc0z => k_is)
    (case n0B => k_is)
    (case n0C => k_is)
    (case x0K => kernel_rfl)
    (case sa0K => k_is)
    (case ga0K => k_is)
    (case gh0K => k_is)
    (case u0K => kernel_rfl)
    (case kc0K => k_is)
    (case n0M => k_is)
    (case n0N => k_is)
    (case x1p => kernel_rfl)
    (case sa1p => k_is)
    (case ga1p => k_is)
    (case gh1p => k_is)
    (case u1p => kernel_rfl)
    (case kc1p => k_is)
    (case n1r => k_is)
    (case n1s => k_is)
    (case cg => k_is)
    (case cr => k_is)
    (case cf => k_is)
    (case g1f => k_is)
    (case g0y => k_is)
    (case g0V => k_is)
    (case g02 => k_is)
    (case g0U => k_is)
    (case g0v => k_is)
    (case g0s => k_is)
    (case g0D => k_is)
    (case g1D => k_is)
    (case g01 => k_is)
    (case g1t => k_is)
    (case g0x => k_is)
    (case g0W => k_is)
    (case g0H => k_is)
    (case g0F => k_is)
    (case g0J => k_is)
    (case g0I => k_is)
    (case g0G => k_is)
    (case g0E => k_is)
    (case g1M => k_is)
    (case g1S => k_is)
    (case g1N => k_is)
    (case g1W => k_is)
    (case g1u => k_is)
    (case h1u => kernel_rfl)
    (case g1e => k_is)
    (case h1e => kernel_rfl)
    (case g00 => k_is)
    (case h00 => kernel_rfl)
    (case g0t => k_is)
    (case h0t => k_is)
    (case s0t => rfl)
    (case g0u => k_is)
    (case h0u => k_is)
    (case s0u => rfl)
    (case p0t => repeat' (first | exact .nil | refine .cons ⟨(by kernel_rfl), (by kernel_rfl), ⟨_, rfl⟩⟩ ?_))
    (case p0u => repeat' (first | exact .nil | refine .cons ⟨(by kernel_rfl), (by kernel_rfl), (show DictEntry.val _ = Value.ref _ by kernel_rfl)⟩ ?_))
    (case q0u => kernel_rfl)
    (case g0w => k_is)
    (case h0w => k_is)
    (case s0w => rfl)
    (case p0w => repeat' (first | exact .nil | refine .cons ⟨(by kernel_rfl), (by kernel_rfl), ⟨_, rfl⟩⟩ ?_))
  case S =>
    intro K H xs a hO hwi hask hx
    cases hx with
    | cons h1 h2 =>
      cases h2
      cases h1 with
      | lst hs ha =>
        have e := L2.ints_dw a.1 _ ha
        subst e
        have q : ((Codec.inLen 0 4096 a.1 && a.1.all (Codec.inInt 0 255)) && true) = true := hwi
        rw [Bool.and_eq_true, Bool.and_eq_true] at q
        have hb : NeutralIO.bytes a.1 = true := List.all_eq_true.mpr fun x hx => by
          have := List.all_eq_true.mp q.1.2 x hx
          exact this
        refine ⟨_, VastoaNeutral.text a.1, rfl, ?_, fun H' p hp => .lst (L2.SqL.of hp) ?_⟩
        · rw [RT.text_nt a.1 hb]; exact hs
        · rw [RT.due_tree a.1 hb]; exact L2.dw_ints _
