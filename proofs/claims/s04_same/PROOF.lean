import PyProof.Rows.All
import Wide.All
import OpenK.AllK
import Wide.FinOn
import PyProof.StationsW
import OpenK.KGet
import PyProof.ExcInit
import PyProof.ExcBaseAll.Exception
import OpenK.KMake
import PyProof.InstStoreFacts
import PyProof.ExcArgs
import PyProof.EqAt
import PyProof.EqKinds
import PyProof.TupleCall
import KE.BitLaws
import Open.SpecLaws
import KE.OsHead
import KE.SpHead
import KE.OsShapes
import PyProof.WalkInts
import KE.KMinKey
import KE.OsGo
import PySem.Challenge.RW_recipetexts_s04_same
set_option Elab.async false
set_option linter.all false
set_option maxRecDepth 100000
set_option maxHeartbeats 4000000
section
namespace LX
open PySem PySem.Spec PyProof.Rows
def Tr (cz:Prop) (h B:Heap) (e C dx:Addr) (fl:Value):Prop :=
 ∃ (oe:Obj) (vs:Array Value) (T:Addr) (oT:Obj) (ts:Array Value),(h.get? e=some oe/\oe.cls=.ref C/\oe.dict=some dx/\oe.data=.fields vs/\vs[1]? = some (.ref T)/\(cz->vs[2]? = some .none))/\(B.get? T=none/\T≠e)/\h.get? T=some oT/\oT.data=.fields ts/\ts[3]? = some fl
structure Note (cz:Prop) (B:Heap) (l:List Env) (e C dx:Addr) (fl:Value) (h h':Heap):Prop where
 st:B.StaysIn h'
 ff:h'.FunFrames B l
 tr:Tr cz h' B e C dx fl
 up:h.UpToSlots h'
structure Fly (cz:Prop) (B:Heap) (l:List Env) (e C dx:Addr) (fl:Value) (h:Heap):Prop where
 st:B.StaysIn h
 nw:B.get? e=none
 ff:h.FunFrames B l
 tr:Tr cz h B e C dx fl
section
variable {M:Model} {A:Around} {E:Value->Shared->Prop} {s:Shared} {B:Heap} {env:Env} {outer:List Env} {L e C dx:Addr} {Q:Unit->Shared->Prop} {cz:Prop}
theorem qfj {oe:Obj} {vs:Array Value} {head:Value} {had:Bool}
  (hfr:A.frames=some (env::outer)) (hl:s.heap.FunFrames B (env::outer)) (hf:env.frame=some L)
  (he:s.heap.get? e=some oe) (hc:oe.cls=.ref C) (hdx:oe.dict=some dx) (hd:oe.data=.fields vs) (hsz:1<vs.size) (hz:cz->vs[2]? = some .none) (hst:B.StaysIn s.heap) (hnw:B.get? e=none)
  (h:∀ h',Note cz B (env::outer) e C dx (rawInt L) s.heap h'->Q () { s with heap:=h' }) :
  wpAny M A (do let a <- frameOf env; let pl <- entryPlaceOf L had; let b <- EntryCells.newEntry head a .none (rawInt L) .none pl; setField (.ref e) 1 b) Q E s:=by
 have nofr:e∉(env::outer).filterMap (·.frame):=by
  intro hm
  obtain ⟨_,o,ho,hnf⟩:=hl.mem hm
  obtain rfl:oe=o:=Option.some.inj (he.symm.trans ho)
  exact hnf vs hd
 refine wpAny_bind (wpAny_frameOf_fun hfr hl hf fun h1 hs1=>?_)
 refine wpAny_bind (wpAny_entryPlaceOf fun pl hpl=>?_)
 unfold EntryCells.newEntry newFields
 refine wpAny_bind (wpAny_newObj_type ?_ (hpl.sizeOk5 _ _ _ _ _))
 have e1:h1.get? e=some oe:=(hs1.2.1 e nofr).trans he
 have st1:B.StaysIn h1:=fun b o q=>(hs1.2.1 b fun hm=>by
  have z:=(hl.mem hm).1
  rw [q] at z
  cases z).trans (hst b o q)
 generalize hN:({ cls:=.type "traceback",dict:=none,data:=.fields ([head,.ref L,.none,rawInt L,.none]++(if pl.isEmpty then List.replicate 6 Value.none else pl)).toArray }:Obj)=nT
 have dT:nT.data=.fields ([head,.ref L,.none,rawInt L,.none]++(if pl.isEmpty then List.replicate 6 Value.none else pl)).toArray:=by rw [<- hN]
 have fT:nT.isFreed=false:=by rw [<- hN]; rfl
 have e2:=Heap.get?_push_of_some (h:=h1) nT e1
 refine wpAny_setField e2 hd hsz (h _ ?_)
 have Te:h1.objs.size≠e:=Nat.ne_of_gt (Heap.lt_size e1)
 have d3:=Obj.data_mapFields hd (·.setIfInBounds 1 (Value.ref h1.objs.size))
 have e3:=Heap.get?_update_self (Obj.mapFields (·.setIfInBounds 1 (Value.ref h1.objs.size))) e2 (Obj.isFreed_of_fields d3)
 have T3:=(Heap.get?_update_other (h1.push nT) (Obj.mapFields (·.setIfInBounds 1 (Value.ref h1.objs.size))) (Ne.symm Te)).trans (Heap.get?_push_size h1 fT)
 have kp:∀ b o,b≠e->h1.get? b=some o->((h1.push nT).update e (Obj.mapFields (·.setIfInBounds 1 (Value.ref h1.objs.size)))).get? b=some o:=by
  intro b o be q
  rw [Heap.get?_update_other _ _ (Ne.symm be)]
  exact Heap.get?_push_of_some _ q
 have rec_ne:∀ b o,s.heap.get? b=some o->(∀ ws,o.data≠.fields ws)->b≠e:=by
  intro b o q hnf z
  subst z
  obtain rfl:oe=o:=Option.some.inj (he.symm.trans q)
  exact hnf vs hd
 refine ⟨fun b o q=>kp b o (fun z=>by subst z; rw [hnw] at q; cases q) (st1 b o q),hl.of_keeps fun b o q hnf=>?_,?_,fun b o q hnf=>?_⟩
 ·obtain ⟨sl,hs⟩:=hs1.2.2 b o q
  exact ⟨_,kp b _ (rec_ne b o q hnf) hs,rfl⟩
 ·refine ⟨_,_,h1.objs.size,nT,_,⟨e3,?_,?_,d3,by simp [hsz],fun z=>by rw [Array.getElem?_setIfInBounds_ne (by decide)]; exact hz z⟩,⟨st1.fresh,Te⟩,T3,dT,?_⟩
  ·rw [Obj.cls_mapFields]; exact hc
  ·have:∀ (f:Array Value->Array Value) (o:Obj),(Obj.mapFields f o).dict=o.dict:=fun f o=>by
    obtain ⟨c,d,dt,sl⟩:=o
    cases dt <;> rfl
   rw [this]; exact hdx
  ·first
    | (simp; done)
    | (rcases hpl with rfl | ⟨_,_,_,_,_,_,_,rfl⟩ <;> simp)
 ·obtain ⟨sl,hs⟩:=hs1.2.2 b o q
  exact ⟨sl,kp b _ (rec_ne b o q hnf) hs⟩
theorem qbn {oe:Obj} {vs:Array Value}
  (hfr:A.frames=some (env::outer)) (hl:s.heap.FunFrames B (env::outer)) (hf:env.frame=some L)
  (he:s.heap.get? e=some oe) (hc:oe.cls=.ref C) (hdx:oe.dict=some dx) (hd:oe.data=.fields vs) (h1:vs[1]? = some .none) (hz:cz->vs[2]? = some .none) (hst:B.StaysIn s.heap) (hnw:B.get? e=none)
  (h:∀ h',Note cz B (env::outer) e C dx (rawInt L) s.heap h'->Q () { s with heap:=h' }):wpAny M A (noteFrame (.ref e) env) Q E s:=by
 unfold noteFrame
 simp only [hf]
 refine wpAny_bind (wpAny_field he hd h1 ?_)
 rw [if_neg (by decide)]
 exact qfj hfr hl hf he hc hdx hd (Array.getElem?_eq_some_iff.mp h1).1 hz hst hnw h
theorem qcF (hfr:A.frames=some (env::outer)) (hf:env.frame=some L) (F:Fly cz B (env::outer) e C dx .none s.heap)
  (h:∀ h',Note cz B (env::outer) e C dx (rawInt L) s.heap h'->Q () { s with heap:=h' }):wpAny M A (noteFrame (.ref e) env) Q E s:=by
 obtain ⟨hst,hnw,hl,oe,vs,T,oT,ts,⟨he,hc,hdx,hd,h1,hz⟩,⟨hnT,hTe⟩,hT,hdT,h3⟩:=F
 unfold noteFrame
 simp only [hf]
 refine wpAny_bind (wpAny_field he hd h1 ?_)
 have t1:(Value.ref T != Value.none)=true:=by simp
 rw [if_pos t1]
 refine wpAny_bind (wpAny_field hT hdT h3 ?_)
 have t2:¬ ((Value.none == rawInt L)=true):=by simp [rawInt]
 rw [if_neg t2]
 refine wpAny_bind (wpAny_setField hT hdT (Array.getElem?_eq_some_iff.mp h3).1 ?_)
 have oth:∀ b,b≠T->(s.heap.update T (Obj.mapFields (·.setIfInBounds 3 Value.none))).get? b=s.heap.get? b:=fun b z=>Heap.get?_update_other _ _ (Ne.symm z)
 have rec_ne:∀ b o,s.heap.get? b=some o->(∀ ws,o.data≠.fields ws)->b≠T:=by
  intro b o q hnf z
  subst z
  obtain rfl:oT=o:=Option.some.inj (hT.symm.trans q)
  exact hnf ts hdT
 refine qfj hfr (hl.of_keeps fun b o q hnf=>⟨o,(oth b (rec_ne b o q hnf)).trans q,rfl⟩) hf ((oth e (Ne.symm hTe)).trans he) hc hdx hd (Array.getElem?_eq_some_iff.mp h1).1 hz
  (fun b o q=>(oth b fun z=>by subst z; rw [hnT] at q; cases q).trans (hst b o q)) hnw fun h' N=>h h' ⟨N.st,N.ff,N.tr,fun b o q hnf=>N.up b o ((oth b (rec_ne b o q hnf)).trans q) hnf⟩
theorem Qj {l:List Env} {fl:Value} (F:Fly cz B l e C dx fl s.heap) (h:∀ h',Fly cz B l e C dx .none h'->s.heap.UpToSlots h'->Q () { s with heap:=h' }):wpAny M A (setFlight (.ref e) none) Q E s:=by
 obtain ⟨hst,hnw,hl,oe,vs,T,oT,ts,⟨he,hc,hdx,hd,h1,hz⟩,⟨hnT,hTe⟩,hT,hdT,h3⟩:=F
 have h3s:3<ts.size:=(Array.getElem?_eq_some_iff.mp h3).1
 have oth:∀ b,b≠T->(s.heap.update T (Obj.mapFields (·.setIfInBounds 3 ((none:Option Addr).elim Value.none fun f=>rawInt f)))).get? b=s.heap.get? b:=fun b z=>Heap.get?_update_other _ _ (Ne.symm z)
 have rec_ne:∀ b o,s.heap.get? b=some o->(∀ ws,o.data≠.fields ws)->b≠T:=by
  intro b o q hnf z
  subst z
  obtain rfl:oT=o:=Option.some.inj (hT.symm.trans q)
  exact hnf ts hdT
 unfold setFlight
 refine wpAny_bind (wpAny_field he hd h1 ?_)
 have t1:(Value.ref T != Value.none)=true:=by simp
 rw [if_pos t1]
 refine wpAny_setField hT hdT h3s (h _ ⟨fun b o q=>(oth b fun z=>by subst z; rw [hnT] at q; cases q).trans (hst b o q),hnw,hl.of_keeps fun b o q hnf=>⟨o,(oth b (rec_ne b o q hnf)).trans q,rfl⟩,?_⟩ fun b o q hnf=>⟨o.slots,(oth b (rec_ne b o q hnf)).trans q⟩)
 exact ⟨oe,vs,T,_,_,⟨(oth e (Ne.symm hTe)).trans he,hc,hdx,hd,h1,hz⟩,⟨hnT,hTe⟩,Heap.get?_update_self _ hT (Obj.isFreed_of_fields (Obj.data_mapFields hdT _)),Obj.data_mapFields hdT _,by simp [h3s]⟩
theorem qa1 {fl:Value} {h:Heap} (F:Fly cz B (env::outer) e C dx fl h):Fly cz B outer e C dx fl h:=⟨F.st,F.nw,F.ff.2.2,F.tr⟩
theorem qeO {oe:Obj} {vs:Array Value}
  (hfr:A.frames=some (env::outer)) (hl:s.heap.FunFrames B (env::outer)) (hf:env.frame=some L)
  (he:s.heap.get? e=some oe) (hc:oe.cls=.ref C) (hdx:oe.dict=some dx) (hd:oe.data=.fields vs) (h1:vs[1]? = some .none) (hz:cz->vs[2]? = some .none) (hst:B.StaysIn s.heap) (hnw:B.get? e=none)
  (h:∀ h',Fly cz B outer e C dx .none h'->s.heap.UpToSlots h'->Q () { s with heap:=h' }):wpAny M A (leaving env (.ref e)) Q E s:=by
 unfold leaving
 refine wpAny_bind (qbn hfr hl hf he hc hdx hd h1 hz hst hnw fun h1 N=>?_)
 exact Qj (s:={ s with heap:=h1 }) ⟨N.st,hnw,N.ff,N.tr⟩ fun h2 F2 u2=>h h2 (qa1 F2) (N.up.trans u2)
theorem qfH (hfr:A.frames=some (env::outer)) (hf:env.frame=some L) (F:Fly cz B (env::outer) e C dx .none s.heap)
  (h:∀ h',Fly cz B outer e C dx .none h'->s.heap.UpToSlots h'->Q () { s with heap:=h' }):wpAny M A (leaving env (.ref e)) Q E s:=by
 unfold leaving
 refine wpAny_bind (qcF hfr hf F fun h1 N=>?_)
 exact Qj (s:={ s with heap:=h1 }) ⟨N.st,F.nw,N.ff,N.tr⟩ fun h2 F2 u2=>h h2 (qa1 F2) (N.up.trans u2)
theorem qcG (hfr:A.frames=some (env::outer)) (hf:env.frame=some L) (F:Fly cz B (env::outer) e C dx .none s.heap)
  (h:∀ h',Fly cz B (env::outer) e C dx .none h'->s.heap.UpToSlots h'->Q () { s with heap:=h' }):wpAny M A (noteFrame (.ref e) env) (fun _ s'=>wpAny M A (setFlight (.ref e) none) Q E s') E s:=by
 refine qcF hfr hf F fun h1 N=>?_
 exact Qj (s:={ s with heap:=h1 }) ⟨N.st,F.nw,N.ff,N.tr⟩ fun h2 F2 u2=>h h2 F2 (N.up.trans u2)
end
end LX
end
section
namespace LX
open PySem PySem.Spec PyProof.Rows
open Sem (wp)
section
variable {prog:Program} {w:World} {A:Around} {E:Value->Shared->Prop} {h:Heap} {g:Array GenState} {d:Drawn} {t:Nat} {os:OsState}
variable {nm q:Str} {C N:Addr} {bs bm:List Value} {hdct:Bool} {sn:List Str} {sub:List Value} {ab:Bool} {col:Option Bool} {dd:Option Addr} {k0 k1 k2 k3 k5:Option Value}
abbrev XC (h:Heap) (nm q:Str) (C N:Addr) (bs bm:List Value) (hdct:Bool) (sn:List Str) (sub:List Value) (ab:Bool) (col:Option Bool) (dd:Option Addr) (k0 k1 k2 k3 k5:Option Value):Prop :=
 h.get? C=some (excClassObj nm q C N bs bm hdct sn sub ab col dd k0 k1 k2 k3 k5 "Exception.__new__")
structure Under (bm:List Value):Prop where
 b1:bm.contains (.type "Exception")=true
 b2:bm.contains (.type "BaseException")=true
 b3:bm.contains (.type "AttributeError")=false
 b4:bm.contains (.type "NameError")=false
theorem qeP {M:Model} {rest:List Value} {Q:Unit->Shared->Prop} (U:Under bm) (hC:XC h nm q C N bs bm hdct sn sub ab col dd k0 k1 k2 k3 k5) (hq:Q () ⟨h,g,d,t,os⟩) :
  wpAny M A (checkBuiltinCall "Exception.__new__" ⟨.ref C::rest,[]⟩) Q E ⟨h,g,d,t,os⟩:=by
 have F:=PySem.F.excBase_Exception
 have hst:=F.noStar
 have hco:(Value.ref C::bm).contains (.type "Exception")=true:=by rw [List.contains_cons,U.b1]; exact Bool.or_true _
 simp only [checkBuiltinCall,F.newKind,F.newSplit,F.newRow]
 repeat (first
  | refine wpAny_loadPart_at hC ?_
  | (refine wpAny_isSubtype_exc hC ?_; rw [hco])
  | refine wpAny_staticBase_exc hC ?_
  | refine wpAny_madeBy_exc hC ?_
  | simp only [bne_self_eq_false,Bool.false_eq_true,if_false]
  | wp_step)
 exact hq
theorem qks {R:Result->Shared->Prop} {rest:List Value} (U:Under bm) (hC:XC h nm q C N bs bm hdct sn sub ab col dd k0 k1 k2 k3 k5) (hr:rest.length<=sizeLine)
  (hq:R (.ok (.ret (.ref (h.objs.size+1)))) ⟨(h.push { cls:=.type "tuple",data:=.seq rest.toArray }).push { cls:=.ref C,data:=.fields #[.ref h.objs.size,.none,.none,.none,.bool false,.none] },g,d,t,os⟩) :
  codeAny (model prog w) A (.builtin "Exception.__new__" ⟨.ref C::rest,[]⟩) R ⟨h,g,d,t,os⟩:=by
 have F:=PySem.F.excBase_Exception
 have hen:=F.ends
 have c1:(Value.ref C::bm).contains (.type "Exception")=true:=by rw [List.contains_cons,U.b1]; exact Bool.or_true _
 have c3:(Value.ref C::bm).contains (.type "AttributeError")=false:=by rw [List.contains_cons,U.b3]; rfl
 have c4:(Value.ref C::bm).contains (.type "NameError")=false:=by rw [List.contains_cons,U.b4]; rfl
 have hrest:=hr
 refine codeAny_builtinAt F.entry ?_
 unfold Builtin.«BaseException.__new__»
 refine PySem.wpAt_bind ?_
 show PySem.wpAt _ _ _ (stack >>= _) _ _ _
 refine PySem.wpAt_bind (PySem.wpAt_stack fun p below=>PySem.wpAt_of_wpAny ?_)
 wp_walk
 refine PySem.wpAt_of_wpAny ?_
 rw [F.owner]
 repeat (first
  | with_reducible refine wpAny_madeHere_exc F.canon hC ?_
  | with_reducible refine wpAny_loadPart_at hC ?_
  | (with_reducible refine wpAny_isSubtype_exc hC ?_; first | rw [c1] | rw [c3] | rw [c4])
  | wp_step)
 show R _ _
 rw [Heap.size_push]
 exact hq
theorem qeQ {rest:List Value} {fI:Addr} {oI:Obj} {Q:Fin->Shared->Prop} (U:Under bm)
  (hC:XC h nm q C N bs bm hdct sn sub ab col dd k0 k1 k2 k3 k5) (hi:PySem.W.Looks (model prog w) h (typeLookup (.ref C) "__init__") (some (.ref fI))) (hfI:h.get? fI=some oI) (hfc:oI.cls=.type "function") (hr:rest.length<=sizeLine)
  (hq:∀ h' e,h.objs.size<=e->Heap.MadeExcOf h h' e (.ref C) rest->wpAny (model prog w) A (call (.ref fI) (.ref e::rest)) (fun r s'=>r=.none/\Q (.done (.ret (.ref e))) s') E ⟨h',g,d,t,os⟩) :
  wpAny (model prog w) A (Builtin.«type.__call__» ⟨.ref C::rest,[]⟩) Q E ⟨h,g,d,t,os⟩:=by
 have F:=PySem.F.excBase_Exception
 repeat (first | with_reducible refine wpAny_loadPart_at hC ?_ | with_reducible refine wpAny_madeBy_exc hC ?_ | wp_step)
 refine codeAny_call_builtin_code (Code.quiet_builtin _ F.quiet) (qeP U hC ?_)
 refine qks U hC hr ?_
 show wpAny _ _ _ _ _ _
 generalize hT:({ cls:=.type "tuple",data:=.seq rest.toArray }:Obj)=oT
 generalize hO:({ cls:=.ref C,data:=.fields #[.ref h.objs.size,.none,.none,.none,.bool false,.none] }:Obj)=oE
 have kp:∀ b o,h.get? b=some o->((h.push oT).push oE).get? b=some o:=fun b o z=>Heap.get?_push_of_some _ (Heap.get?_push_of_some _ z)
 have hC1:XC ((h.push oT).push oE) nm q C N bs bm hdct sn sub ab col dd k0 k1 k2 k3 k5:=kp _ _ hC
 have hf1:=kp _ _ hfI
 have hi1:=hi.keeps kp
 have hE:((h.push oT).push oE).get? (h.objs.size+1)=some oE:=by subst hT hO; heap_get
 have cE:oE.cls=.ref C:=by subst hO; rfl
 have cC:(Value.ref C::bm).contains (.ref C)=true:=by simp
 unfold isInstance
 repeat (first | (with_reducible refine wpAny_loadPart_at hE ?_; rw [cE]) | (with_reducible refine wpAny_isSubtype_exc hC1 ?_; rw [cC]) | wp_step)
 show wpAny _ _ (typeLookup (.ref C) _) _ _ _
 refine hi1.at ?_
 refine wpAny_holding (wpAny_bind ?_)
 unfold bindSpecial
 refine wpAny_bind (wpAny_typeOf (T:= "function") ⟨_,hf1,hfc⟩ ?_)
 rw [if_pos (by decide)]
 refine wpAny_pure (wpAny_bind (wpAny_mono (hq _ (h.objs.size+1) (Nat.le_succ _) ⟨kp,Heap.get?_none_of_le (Nat.le_succ _),h.objs.size,by rw [hE,<- hO],Heap.get?_none_of_le (Nat.le_refl _),?_⟩) (fun r s' z=>?_) fun _ _ x=>x))
 ·rw [hT]
  exact Heap.get?_push_of_some _ (Heap.get?_push_at rfl (by subst hT; rfl))
 ·obtain ⟨rfl,z⟩:=z
  wp_walk
  exact z
theorem x_call {rest:List Value} {fI:Addr} {oI:Obj} {Q:Value->Shared->Prop} (U:Under bm)
  (hC:XC h nm q C N bs bm hdct sn sub ab col dd k0 k1 k2 k3 k5) (hi:PySem.W.Looks (model prog w) h (typeLookup (.ref C) "__init__") (some (.ref fI))) (hfI:h.get? fI=some oI) (hfc:oI.cls=.type "function") (hr:rest.length<=sizeLine)
  (hq:∀ h' e,h.objs.size<=e->Heap.MadeExcOf h h' e (.ref C) rest->wpAny (model prog w) (A.under (.builtin "type.__call__" ⟨.ref C::rest,[]⟩)) (call (.ref fI) (.ref e::rest)) (fun r s'=>r=.none/\Q (.ref e) s') E ⟨h',g,d,t,os⟩) :
  wpAny (model prog w) A (call (.ref C) rest) Q E ⟨h,g,d,t,os⟩:=by
 have f1:=tc_lookup
 have f2:=tc_bind (.ref C)
 have hT:(⟨h,g,d,t,os⟩:Shared).TypeIs (.ref C) "type":=⟨_,hC,rfl⟩
 refine wpAny_call (codeAny_of_tree ?_)
 show wpAny _ _ (callAny (.ref C) _) _ _ _
 repeat (any_goals (first
  | assumption
  | with_reducible refine wpAny_loadPart_at hC ?_
  | wp_step))
 refine ⟨rfl,?_⟩
 refine codeAny_call_builtin_at (Code.quiet_builtin _ (by decide +kernel)) entry_typeCall (wpAny_check_type_call_sub hC ?_)
 exact qeQ U hC hi hfI hfc hr fun h' e hs hm=>hq h' e hs hm
end
section
variable {M:Model} {A:Around} {E:Value->Shared->Prop} {env:Env}
variable {nm q:Str} {C N:Addr} {bs bm:List Value} {hdct:Bool} {sn:List Str} {sub:List Value} {ab:Bool} {col:Option Bool} {dd:Option Addr} {k0 k1 k2 k3 k5:Option Value}
theorem x_raise {s:Shared} {x:Sem Value} {Q:Flow->Shared->Prop} (U:Under bm) (hh:A.handled=none)
  (h:wpAny M A x (fun v s1=>∃ (e t:Addr) (dx:Option Addr) (sl:Array (Option Value)),v=.ref e/\XC s1.heap nm q C N bs bm hdct sn sub ab col dd k0 k1 k2 k3 k5 /\
   s1.heap.get? e=some { cls:=.ref C,dict:=dx,data:=.fields #[.ref t,.none,.none,.none,.bool false,.none],slots:=sl }/\E (.ref e) s1) E s) :
  wpAny M A (raiseStmt env (some x) none) Q E s:=by
 have cB:(Value.ref C::bm).contains (.type "BaseException")=true:=by rw [List.contains_cons,U.b2]; exact Bool.or_true _
 unfold raiseStmt
 refine wpAny_bind (wpAny_mono h (fun v s1 z=>?_) fun _ _ x=>x)
 obtain ⟨e,t,dx,sl,rfl,hC,he,hE⟩:=z
 obtain ⟨hp,g,d,tk,os⟩:=s1
 repeat (first
  | with_reducible refine wpAny_loadPart_at he ?_
  | with_reducible refine wpAny_loadPart_at hC ?_
  | (with_reducible refine wpAny_isSubtype_exc hC ?_; rw [cB])
  | wp_step)
 exact wpAny_raiseNew_none hh hE
theorem qcH {h:Heap} {g:Array GenState} {d:Drawn} {t:Nat} {os:OsState} {e S NS:Addr} {oe:Obj} {nmS qS:Str} {bsS bmS:List Value} {hdS:Bool} {snS:List Str} {subS:List Value} {abS:Bool} {colS:Option Bool} {ddS:Option Addr} {j0 j1 j2 j3 j5:Option Value} {Q:Bool->Shared->Prop}
  (US:Under bmS) (hC:XC h nm q C N bs bm hdct sn sub ab col dd k0 k1 k2 k3 k5) (hS:XC h nmS qS S NS bsS bmS hdS snS subS abS colS ddS j0 j1 j2 j3 j5) (hcs:(Value.ref C::bm).contains (.ref S)=true)
  (he:h.get? e=some oe) (hcls:oe.cls=.ref C) (hq:Q true ⟨h,g,d,t,os⟩):wpAny M A (excMatches (.ref e) (.ref S)) Q E ⟨h,g,d,t,os⟩:=by
 have cB:(Value.ref S::bmS).contains (.type "BaseException")=true:=by rw [List.contains_cons,US.b2]; exact Bool.or_true _
 have f:=tc_notTuple
 unfold excMatches
 repeat (first
  | (with_reducible refine wpAny_loadPart_at he ?_; rw [hcls])
  | with_reducible refine wpAny_loadPart_at hS ?_
  | (with_reducible refine wpAny_isSubtype_exc hS ?_; rw [cB])
  | (with_reducible refine wpAny_isSubtype_exc hC ?_; rw [hcs])
  | wp_step)
 exact hq
end
end LX
end
section
namespace LX
open PySem PySem.Spec PyProof.Rows Builtin Builtin.ObjectAttr
open PySem.W (Frag InstAt Looks clsIn findIn takerIn findObj handedIn looks_findIn looks_clsIn looks_mroIn mroIn)
def jJ:List Value->Bool
 | [.type a,.type b,.type c]=>a == "Exception" && b == "BaseException" && c == "object"
 | .ref _::r=>jJ r
 | _=>false
theorem qaT (self:Value):∀ {l:List Value},jJ l=true->refuseLoop self "__setattr__" l=pure ()
 | [.type a,.type b,.type c],e=>by
  simp only [jJ,Bool.and_eq_true,beq_iff_eq] at e
  obtain ⟨⟨rfl,rfl⟩,rfl⟩:=e
  exact PySem.F.store_Exception.passes self
 | .ref c::r,e=>by rw [refuseLoop_ref]; exact qaT self (l:=r) e
theorem qdF:∀ {l:List Value},jJ l=true->l.contains (.type "object")=true
 | [.type a,.type b,.type c],e=>by
  simp only [jJ,Bool.and_eq_true,beq_iff_eq] at e
  obtain ⟨⟨rfl,rfl⟩,rfl⟩:=e
  decide
 | .ref c::r,e=>by rw [List.contains_cons,qdF (l:=r) e,Bool.or_true]
theorem qfk {l:List Value} (e:jJ l=true):l.isEmpty=false:=by
 cases l with
 | nil=>cases e
 | cons _ _=>rfl
section
variable {prog:Program} {w:World} {A:Around} {E:Value->Shared->Prop} {s:Shared} {K:Frag} {x C:Addr} {ox:Obj} {od:Option Obj} {name:Str} {v:Value} {cd:ClassData}
theorem qis {tk:Tok} {R:Result->Shared->Prop} (X:K.In s.heap) (I:InstAt s.heap x ox C od) (hc:clsIn K C=some cd) (hp:jJ cd.mro=true) (ht:findIn K (.ref C) name=some none)
  (h:wpAny (model prog w) A.in1 (storeInOwnDict (.ref x) (.ref C) (.str name tk) name v false)
   (fun fin s'=>match fin with | .done f=>R (.ok f) s' | .again c'=>c'.quiet=true/\codeAny (model prog w) A c' R s') (fun e s'=>R (.error e) s') s) :
  codeAny (model prog w) A (.call (.builtin "object.__setattr__") ⟨[.ref x,.str name tk,v],[]⟩) R s:=by
 have SF:=PySem.F.store_object
 have ne:=qfk hp
 have sub:Looks (model prog w) s.heap (isInstance (.ref x) (.type "object")) true:=I.type.andThen (looks_mroIn X (by unfold mroIn; rw [hc,Option.bind_some,if_neg (by rw [ne]; decide),qdF hp]))
 refine codeAny_call_builtin SF.slot.plain SF.entry (@PySem.W.check_slot (model prog w) _ _ s "object.__setattr__" "object" "__setattr__" (.ref x) [.str name tk,v] [] _ SF.kind SF.split sub (SF.args (.ref x) (.str name tk) v) ?_)
 have hm:Looks (model prog w) s.heap (mroOf (.ref C)) cd.mro:=(looks_clsIn X hc).andThen .now
 rw [PySem.W.osa_eq,refuse_eq]
 refine wpAny_bind (wpAny_bind (I.type.here (wpAny_bind (hm.here ?_))))
 rw [qaT _ hp]
 refine wpAny_pure (wpAny_bind (I.type.here (wpAny_bind ((looks_findIn X ht).here (wpAny_bind ?_)))))
 exact wpAny_pure h
theorem qjy {vs:Array Value} {sl:Array (Option Value)} {Q:Unit->Shared->Prop} (X:K.In s.heap) (hx:s.heap.get? x=some ⟨.ref C,none,.fields vs,sl⟩) (hc:clsIn K C=some cd) (hp:jJ cd.mro=true) (hd:cd.hasDict=true)
  (hs:findIn K (.ref C) "__setattr__" = some (some (.builtin "object.__setattr__"))) (ht:findIn K (.ref C) name=some none)
  (h:∀ h' tk,h'.get? x=some ⟨.ref C,some s.heap.objs.size,.fields vs,sl⟩->h'.Ns1 s.heap.objs.size (fun y=>if y=name then some v else none)->(∀ b o,b≠x->s.heap.get? b=some o->h'.get? b=some o)->Q () { s with heap:=h',toks:=tk }) :
  wpAny (model prog w) A (setAttr (.ref x) name v) Q E s:=by
 have I:InstAt s.heap x ⟨.ref C,none,.fields vs,sl⟩ C none:=⟨hx,rfl,rfl,trivial⟩
 refine PySem.W.set_plain X I hs (qis (s:={ s with toks:=s.toks+1 }) X I hc hp ht ?_)
 have L:=looks_clsIn (M:=model prog w) X hc
 unfold storeInOwnDict
 have e1:ownStreamTells (.ref x) (.ref C)=pure ():=rfl
 rw [e1]
 refine wpAny_bind (wpAny_pure ?_)
 rw [if_neg (show ¬ ((Value.ref C == Value.type "module")=true) by simp)]
 refine wpAny_bind ?_
 show wpAny _ _ (instanceDict x true) _ _ _
 unfold instanceDict
 refine wpAny_bind (wpAny_loadPart (s:={ s with toks:=s.toks+1 }) hx ?_)
 dsimp only
 refine wpAny_bind (L.here (s:={ s with toks:=s.toks+1 }) ?_)
 rw [hd]
 simp only [Bool.not_true,Bool.false_eq_true,if_false,typeHasDict,Bool.false_or]
 have hx1:(s.heap.push { cls:=.type "dict",data:=.dict #[] }).get? x=some ⟨.ref C,none,.fields vs,sl⟩:=Heap.get?_push_of_some _ hx
 have hxs:x≠s.heap.objs.size:=Nat.ne_of_lt (Heap.lt_size hx)
 refine wpAny_bind (wpAny_alloc (wpAny_bind (wpAny_update hx1 ?_)))
 refine wpAny_pure (a:=some s.heap.objs.size) ?_
 have hgd:((s.heap.push { cls:=.type "dict",data:=.dict #[] }).update x fun o=>{ o with dict:=some s.heap.objs.size }).get? s.heap.objs.size=some { cls:=.type "dict",data:=.dict #[] } :=
  (Heap.get?_update_ne _ _ _ _ hxs.symm).trans (Heap.get?_push_at rfl rfl)
 have hnd:((s.heap.push { cls:=.type "dict",data:=.dict #[] }).update x fun o=>{ o with dict:=some s.heap.objs.size }).Ns s.heap.objs.size (fun _=>none) :=
  ⟨_,#[],_,hgd,rfl,fun e he=>absurd he (by simp),fun _=>rfl⟩
 show wpAny _ _ (storeInDict s.heap.objs.size (.str name s.toks) name v) _ _ _
 unfold storeInDict newKeyGuard
 refine wpAny_bind (wpAny_pure (wpAny_bind (wpAny_nsSet1 (Heap.Ns1.of_empty hnd) fun h' hn' hs'=>?_)))
 obtain ⟨oD,esD,epD,hoD,hdD,hcD⟩:=hn'.count (Within.cons name v Within.nil)
 refine wpAny_bind (wpAny_lookBehind hoD (by rw [hdD]; exact pastItsLine_dict (Nat.le_trans hcD (by rw [List.length_cons,List.length_nil,sizeLine_eq]; omega))) ?_)
 refine wpAny_pure (h h' _ ?_ hn' fun b o hb q=>?_)
 ·exact (hs'.2 x hxs).trans (Heap.get?_update_self _ hx1 rfl)
 ·exact (hs'.2 b (Nat.ne_of_lt (Heap.lt_size q))).trans ((Heap.get?_update_ne _ _ _ _ hb).trans (Heap.get?_push_of_some _ q))
theorem qjz {vs:Array Value} {sl:Array (Option Value)} {dx:Addr} {mA:Str->Option Value} {ns:List Str} {Q:Unit->Shared->Prop} (X:K.In s.heap) (hx:s.heap.get? x=some ⟨.ref C,some dx,.fields vs,sl⟩) (hn:s.heap.Ns1 dx mA)
  (hw:PySem.Within mA ns) (hsz:ns.length<=1000) (hc:clsIn K C=some cd) (hp:jJ cd.mro=true) (hd:cd.hasDict=true)
  (hs:findIn K (.ref C) "__setattr__" = some (some (.builtin "object.__setattr__"))) (ht:findIn K (.ref C) name=some none)
  (h:∀ h' tk,h'.Ns1 dx (fun y=>if y=name then some v else mA y)->Heap.SameBut dx s.heap h'->Q () { s with heap:=h',toks:=tk }) :
  wpAny (model prog w) A (setAttr (.ref x) name v) Q E s:=by
 obtain ⟨od,eod⟩:∃ od,s.heap.get? dx=some od:=let ⟨o,_,_,e,_⟩:=hn; ⟨o,e⟩
 have I:InstAt s.heap x ⟨.ref C,some dx,.fields vs,sl⟩ C (some od):=⟨hx,rfl,rfl,eod⟩
 refine PySem.W.set_plain X I hs (qis (s:={ s with toks:=s.toks+1 }) X I hc hp ht ?_)
 have L:=looks_clsIn (M:=model prog w) X hc
 unfold storeInOwnDict
 have e1:ownStreamTells (.ref x) (.ref C)=pure ():=rfl
 rw [e1]
 refine wpAny_bind (wpAny_pure ?_)
 rw [if_neg (show ¬ ((Value.ref C == Value.type "module")=true) by simp)]
 refine wpAny_bind ?_
 show wpAny _ _ (instanceDict x true) _ _ _
 unfold instanceDict
 refine wpAny_bind (wpAny_loadPart (s:={ s with toks:=s.toks+1 }) hx ?_)
 dsimp only
 refine wpAny_bind (L.here (s:={ s with toks:=s.toks+1 }) ?_)
 rw [hd]
 refine wpAny_pure (a:=some dx) ?_
 show wpAny _ _ (storeInDict dx (.str name s.toks) name v) _ _ _
 unfold storeInDict newKeyGuard
 refine wpAny_bind (wpAny_pure (wpAny_bind (wpAny_nsSet1 (s:={ s with toks:=s.toks+1 }) hn fun h' hn' hs'=>?_)))
 obtain ⟨oD,esD,epD,hoD,hdD,hcD⟩:=hn'.count (Within.cons name v hw)
 refine wpAny_bind (wpAny_lookBehind hoD (by rw [hdD]; exact pastItsLine_dict (Nat.le_trans hcD (by rw [List.length_cons,sizeLine_eq]; omega))) ?_)
 exact wpAny_pure (h h' _ hn' hs')
theorem qiG:builtinKind "BaseException.__getattribute__" = some .slot:=by decide +kernel
theorem qhx:splitId "BaseException.__getattribute__" = some ("BaseException","__getattribute__"):=by decide +kernel
theorem qhy:plainId "BaseException.__getattribute__" = true:=by decide +kernel
theorem qiH (self:Value):bindSpecial (.builtin "BaseException.__getattribute__") self=pure (.builtin "BaseException.__getattribute__",[self]):=PySem.F.excAttr_ValueError.ga.bind self
theorem qkt {expr:Bool} {Q:Value->Shared->Prop} (X:K.In s.heap) (I:InstAt s.heap x ox C od) (hga:findIn K (.ref C) "__getattribute__" = some (some (.builtin "BaseException.__getattribute__")))
  (hk:findIn K (.ref C) "__getattr__" = some none) (hsub:mroIn K C (.type "BaseException")=some true) (hf:findObj K C od name=some (.value v)) (hh:handedIn v=true) (h:Q v { s with toks:=s.toks+1 }) :
  wpAny (model prog w) A (getAttr (.ref x) name expr) Q E s:=by
 obtain ⟨hp,g,d,t,os⟩:=s
 have L0:=I.type (M:=model prog w)
 have L1:=looks_findIn (M:=model prog w) X hga
 have L2:=looks_findIn (M:=model prog w) X hk
 have L3:=PySem.W.looks_find (M:=model prog w) X I hf
 have L4:Looks (model prog w) hp (isInstance (.ref x) (.type "BaseException")) true:=L0.andThen (looks_mroIn X hsub)
 unfold getAttr getAttrBy
 refine wpAny_bind (wpAny_mkText (wpAny_holding (wpAny_bind (L0.at (wpAny_bind (L1.at ?_))))))
 show wpAny _ _ (getAttrByItsOwn _ _ _ _ _ _) _ _ _
 unfold getAttrByItsOwn hookBefore
 refine wpAny_bind (L2.at ?_)
 refine wpAny_bind (wpAny_attempt (wpAny_holding ?_))
 have e0:(expr&&onTheHeap (Value.builtin "BaseException.__getattribute__"))=false:=by cases expr <;> rfl
 unfold callGetattribute
 rw [e0]
 show wpAny _ _ (boundAndCalled _ _ _) _ _ _
 unfold boundAndCalled
 rw [qiH]
 refine wpAny_bind (wpAny_pure (wpAny_call ?_))
 refine codeAny_call_builtin qhy PySem.F.entry_bexc_ga (@PySem.W.check_slot (model prog w) _ _ ⟨hp,g,d,t+1,os⟩ "BaseException.__getattribute__" "BaseException" "__getattribute__" (.ref x) [.str name t] [] _ qiG qhx L4 (PySem.F.args_bexc_ga _ _) ?_)
 unfold Builtin.«object.__getattribute__»
 refine wpAny_bind (wpAny_pure (wpAny_bind (wpAny_pure (wpAny_bind (L0.at (wpAny_bind (L3.at ?_)))))))
 refine wpAny_pure ?_
 show wpAny _ _ (handedOut v) _ _ _
 rw [PySem.W.handedOut_of hh]
 exact wpAny_pure h
end
end LX
end
section
namespace L2
open PySem PySem.Spec PyProof.Rows
abbrev Key:=Sum Int Str
def Zg:Key->Value->Bool
 | .inl k,v=>Value.isInt k v
 | .inr x,v=>Value.isStrOf x v
def qhz (w:World):Key->Int
 | .inl k=>hashInt k
 | .inr x=>hashStr w x
theorem jc:∀ {k:Key} {v:Value},Zg k v=true->(∃ i t,k=Sum.inl i/\v=Value.int i t) \/ (∃ x t,k=Sum.inr x/\v=Value.str x t)
 | .inl i,v,h=>by
  obtain ⟨t,e⟩:=Value.isInt_shape (k:=i) (v:=v) h
  exact .inl ⟨i,t,rfl,e⟩
 | .inr x,v,h=>by
  obtain ⟨t,e⟩:=Value.isStrOf_shape (x:=x) (v:=v) h
  exact .inr ⟨x,t,rfl,e⟩
theorem qgo (i:Int) (t:Tok):Zg (.inl i) (.int i t)=true:=by simp [Zg,Value.isInt]
theorem qgp (x:Str) (t:Tok):Zg (.inr x) (.str x t)=true:=by simp [Zg,Value.isStrOf]
theorem qjA (a b:Int):decide ((Sum.inl a:Key)=Sum.inl b)=(a == b):=by
 by_cases e:a=b
 ·subst e; simp
 ·have h:¬ (Sum.inl a:Key)=Sum.inl b:=fun q=>e (Sum.inl.inj q)
  rw [decide_eq_false h]
  exact (beq_eq_false_iff_ne.mpr e).symm
theorem qjB (a b:Str):decide ((Sum.inr a:Key)=Sum.inr b)=decide (a=b):=by
 by_cases e:a=b
 ·subst e; simp
 ·have h:¬ (Sum.inr a:Key)=Sum.inr b:=fun q=>e (Sum.inr.inj q)
  rw [decide_eq_false h,decide_eq_false e]
theorem qjC (a:Int) (b:Str):decide ((Sum.inl a:Key)=Sum.inr b)=false:=decide_eq_false (fun q=>nomatch q)
theorem qjD (a:Str) (b:Int):decide ((Sum.inr a:Key)=Sum.inl b)=false:=decide_eq_false (fun q=>nomatch q)
def zI (prog:Program) (w:World):PySem.KeyKind prog w Key where
 is:=Zg
 hash:=qhz w
 inj:=fun v a b ha hb=>by
  rcases jc ha with ⟨i,t,rfl,rfl⟩ | ⟨x,t,rfl,rfl⟩
  ·rcases jc hb with ⟨j,u,rfl,e⟩ | ⟨y,u,rfl,e⟩
   ·injection e with e1 _; rw [e1]
   ·exact nomatch e
  ·rcases jc hb with ⟨j,u,rfl,e⟩ | ⟨y,u,rfl,e⟩
   ·exact nomatch e
   ·injection e with e1 _; rw [e1]
 byValue:=fun k v h=>by
  rcases jc h with ⟨i,t,rfl,rfl⟩ | ⟨x,t,rfl,rfl⟩ <;> rfl
 pyHash:=fun hv h=>by
  rcases jc hv with ⟨i,t,rfl,rfl⟩ | ⟨x,t,rfl,rfl⟩
  ·exact wpAny_pyHash_int h
  ·exact wpAny_pyHash_str h
 eqBool:=fun hu hv h=>by
  rcases jc hu with ⟨i,t,rfl,rfl⟩ | ⟨x,t,rfl,rfl⟩
  ·rcases jc hv with ⟨j,u,rfl,rfl⟩ | ⟨y,u,rfl,rfl⟩
   ·rw [qjA] at h; exact wpAny_eqBool_int h
   ·rw [qjC] at h; exact SeqAt.EqAt.int_str i t y u _ _ _ _ h
  ·rcases jc hv with ⟨j,u,rfl,rfl⟩ | ⟨y,u,rfl,rfl⟩
   ·rw [qjD] at h; exact SeqAt.EqAt.str_int x t j u _ _ _ _ h
   ·rw [qjB] at h; exact wpAny_eqBool_str h
 «strs»:=fun k x t v h=>by
  rcases jc h with ⟨i,u,rfl,e⟩ | ⟨y,u,rfl,e⟩
  ·exact nomatch e
  ·injection e with e1 _
   subst e1
   cases v <;> rfl
theorem qeR (prog:Program) (w:World) (i:Int) (t:Tok):(zI prog w).is (.inl i) (.int i t)=true:=qgo i t
theorem qeS (prog:Program) (w:World) (x:Str) (t:Tok):(zI prog w).is (.inr x) (.str x t)=true:=qgp x t
end L2
namespace L2
open PySem PySem.Spec PyProof.Rows
inductive V where
 | non | bl (b:Bool) | int (i:Int) | str (x:Str) | byt (b:Array UInt8) | flt (b:UInt64) | ref (a:Addr) | ty (n:String)
 deriving DecidableEq
def RelV:V->Value->Prop
 | .non,u=>u=Value.none
 | .bl b,u=>u=Value.bool b
 | .int i,u=>∃ t,u=Value.int i t
 | .str x,u=>∃ t,u=Value.str x t
 | .byt b,u=>∃ t,u=Value.bytes b t
 | .flt b,u=>∃ t,u=Value.float b t
 | .ref a,u=>u=Value.ref a
 | .ty n,u=>u=Value.type n
abbrev qv:List V->List Value->Prop:=Paired RelV
theorem qv.length {xs:List V} {us:List Value} (r:qv xs us):xs.length=us.length:=Paired.length r
theorem qv.get:∀ {xs:List V} {us:List Value} {i:Nat} {x:V},qv xs us->xs[i]? = some x->∃ u,us[i]? = some u/\RelV x u
 | _,_,_,_,.nil,e=>by simp at e
 | _,_,0,_,.cons r _,e=>by simp at e; subst e; exact ⟨_,rfl,r⟩
 | _,_,i+1,x,.cons _ t,e=>by
  obtain ⟨u,h1,h2⟩:=qv.get (i:=i) (x:=x) t (by simpa using e)
  exact ⟨u,by simpa using h1,h2⟩
theorem qv.append:∀ {xs ys:List V} {us ws:List Value},qv xs us->qv ys ws->qv (xs++ys) (us++ws)
 | _,_,_,_,.nil,s=>s
 | _,_,_,_,.cons r t,s=>.cons r (qv.append t s)
theorem qv.take:∀ {xs:List V} {us:List Value} (n:Nat),qv xs us->qv (xs.take n) (us.take n)
 | _,_,0,_=>.nil
 | _,_,_+1,.nil=>.nil
 | _,_,n+1,.cons r t=>.cons r (qv.take n t)
theorem qv.drop:∀ {xs:List V} {us:List Value} (n:Nat),qv xs us->qv (xs.drop n) (us.drop n)
 | _,_,0,r=>r
 | _,_,_+1,.nil=>.nil
 | _,_,n+1,.cons _ t=>qv.drop n t
def jq:Option V->Option Value->Prop
 | some v,some u=>RelV v u
 | none,none=>True
 | _,_=>False
def KV {κ : Type}:List (κ × V)->List (κ × Value)->Prop:=Paired fun (p:κ × V) (q:κ × Value)=>p.1=q.1/\RelV p.2 q.2
def kV:Key->V
 | .inl i=>.int i
 | .inr x=>.str x
inductive HO where
 | lst (xs:List V)
 | tup (xs:List V)
 | dK (kvs:List (Key × V)) | dT (kvs:List (List Key × V))
 | set (S:Int->Bool) (n:Nat)
 | ins (C dx:Addr) (fs:List (Str × V))
 | own (x:Addr)
 | xd (fs:List (Str × V))
 | met (f x:Addr)
 | rng (lo hi:Int)
 | frz (o:Obj) (u:HO)
 | tbl (ps:Array Value)
 | ext (φ : Heap->Prop)
abbrev Hp:=Addr->Option HO
def upd (H:Hp) (a:Addr) (o:HO):Hp:=fun b=>if b=a then some o else H b
theorem qd {H:Hp} {a:Addr} {o:HO}:upd H a o a=some o:=by unfold upd; rw [if_pos rfl]
theorem qa {H:Hp} {a b:Addr} {o:HO} (h:b≠a):upd H a o b=H b:=by unfold upd; rw [if_neg h]
theorem jm {H:Hp} {a:Addr} {o u:HO}:upd (upd H a o) a u=upd H a u:=by
 funext b; unfold upd; split <;> rfl
theorem qaA {H:Hp} {a b:Addr} {o u:HO} (h:H a=some o) (h':H b=some u) (d:o≠u):a≠b:=by
 intro e; subst e; rw [h] at h'; exact d (Option.some.inj h')
theorem qg {H:Hp} {a b:Addr} {o:HO} (h:H a=some o) (h':H b=none):a≠b:=by
 intro e; subst e; rw [h] at h'; cases h'
section
variable (P:Program) (w:World)
def zq (H:Hp) (h:Heap) (a:Addr):HO->Prop
 | .lst xs=>xs.length<=sizeLine/\∃ (its:List Value) (n:Nat),qv xs its/\h.get? a=some { cls:=.type "list",data:=.seq its.toArray n }
 | .tup xs=>xs.length<=sizeLine/\∃ its:List Value,qv xs its/\IsTup h a its.toArray
 | .dK kvs=>kvs.length<=sizeLine/\(a == sysModules)=false/\∃ vs,KV kvs vs/\h.DictOf (zI P w) a vs
 | .dT kvs=>kvs.length<=sizeLine/\(a == sysModules)=false/\∃ xs:List (List Key × Addr × Value),
   Paired (fun (p:List Key × V) (q:List Key × Addr × Value)=>p.1=q.1/\H q.2.1=some (.tup (p.1.map kV))/\RelV p.2 q.2.2) kvs xs /\
   ∃ o es ep,h.get? a=some o/\o.ExactDict/\o.data=.dict es ep/\es.toList=xs.map (entryOfKey (tupleKind (zI P w)))/\(xs.map (·.1)).Nodup
 | .set S n=>h.SetOf (intKind P w) a S n
 | .ins C dx fs=>H dx=some (.own a)/\fs.length<=1000/\dx≠a/\h.get? a=some (PySem.W.instObj C dx) /\
   ∃ mA,h.Ns1 dx mA/\(∀ f,jq (fs.lookup f) (mA f))/\PySem.Within mA (fs.map (·.1))
 | .own _=>∃ o,h.get? a=some o
 | .xd fs=>∃ mA,h.Ns1 a mA/\∀ f,jq (fs.lookup f) (mA f)
 | .rng lo hi=>∃ t u v,h.get? a=some { cls:=.type "range",data:=.fields #[.int lo t,.int hi u,.int 1 v] }
 | .frz o u=>h.get? a=some o/\zq H h a u
 | .tbl ps=>h.get? a=some { cls:=.none,data:=.fields ps }
 | .met f x=>h.get? a=some (PySem.W.methodObj (.ref f) (.ref x))
 | .ext φ=>φ h/\(∃ o,h.get? a=some o)/\∀ h1 h2:Heap,φ h1->(∀ o,h1.get? a=some o->h2.get? a=some o) -> φ h2
def HOk (H:Hp) (h:Heap):Prop:=∀ a o,H a=some o->zq P w H h a o
end
section
variable {P:Program} {w:World} {H H':Hp} {h h':Heap} {a:Addr} {o:HO}
theorem zq.lt (x:zq P w H h a o):a<h.objs.size:=by
 cases o with
 | lst xs=>obtain ⟨_,_,_,_,e⟩:=x; exact Heap.lt_size e
 | tup xs=>obtain ⟨_,_,_,p⟩:=x; exact p.lt
 | dK kvs=>obtain ⟨_,_,_,_,o,_,_,e,_⟩:=x; exact Heap.lt_size e
 | dT kvs=>obtain ⟨_,_,_,_,o,_,_,e,_⟩:=x; exact Heap.lt_size e
 | set S n=>obtain ⟨o,_,_,_,e,_⟩:=x; exact Heap.lt_size e
 | ins C dx fs=>obtain ⟨_,_,_,e,_⟩:=x; exact Heap.lt_size e
 | own y=>obtain ⟨_,e⟩:=x; exact Heap.lt_size e
 | xd fs=>obtain ⟨_,⟨_,_,_,e,_⟩,_⟩:=x; exact Heap.lt_size e
 | rng lo hi=>obtain ⟨_,_,_,e⟩:=x; exact Heap.lt_size e
 | frz ob u=>obtain ⟨e,_⟩:=x; exact Heap.lt_size e
 | tbl ps=>exact Heap.lt_size (show h.get? a=some _ from x)
 | met f y=>exact Heap.lt_size (show h.get? a=some _ from x)
 | ext φ=>obtain ⟨_,⟨_,e⟩,_⟩:=x; exact Heap.lt_size e
theorem Paired.mapP {α β : Type} {F G:α -> β -> Prop}:∀ {l₁ : List α} {l₂ : List β},Paired F l₁ l₂ -> (∀ a b,F a b->G a b)->Paired G l₁ l₂
 | _,_,.nil,_=>.nil
 | _,_,.cons r t,f=>.cons (f _ _ r) (Paired.mapP t f)
theorem zq.stay (x:zq P w H h a o) (k:∀ b u,(b=a \/ H b=some (.own a))->h.get? b=some u->h'.get? b=some u)
  (ho:∀ b,H b=some (.own a)->H' b=some (.own a)) (ht:∀ b xs,H b=some (.tup xs)->H' b=some (.tup xs)):zq P w H' h' a o:=by
 induction o with
 | lst xs=>obtain ⟨z,its,n,r,e⟩:=x; exact ⟨z,its,n,r,k _ _ (.inl rfl) e⟩
 | tup xs=>obtain ⟨z,its,r,ob,e,c⟩:=x; exact ⟨z,its,r,ob,k _ _ (.inl rfl) e,c⟩
 | dK kvs=>obtain ⟨z,y,vs,r,ob,es,ep,e,c⟩:=x; exact ⟨z,y,vs,r,ob,es,ep,k _ _ (.inl rfl) e,c⟩
 | dT kvs=>
  obtain ⟨z,y,xs,r,ob,es,ep,e,c⟩:=x
  exact ⟨z,y,xs,Paired.mapP r fun p q z=>⟨z.1,ht _ _ z.2.1,z.2.2⟩,ob,es,ep,k _ _ (.inl rfl) e,c⟩
 | set S n=>obtain ⟨ob,es,ep,t,e,c⟩:=x; exact ⟨ob,es,ep,t,k _ _ (.inl rfl) e,c⟩
 | ins C dx fs=>
  obtain ⟨d,z,ne,e,mA,⟨od,es,ep,e2,c⟩,r⟩:=x
  exact ⟨ho _ d,z,ne,k _ _ (.inl rfl) e,mA,⟨od,es,ep,k _ _ (.inr d) e2,c⟩,r⟩
 | own y=>obtain ⟨ob,e⟩:=x; exact ⟨ob,k _ _ (.inl rfl) e⟩
 | xd fs=>obtain ⟨mA,⟨od,es,ep,e,c⟩,r⟩:=x; exact ⟨mA,⟨od,es,ep,k _ _ (.inl rfl) e,c⟩,r⟩
 | rng lo hi=>obtain ⟨t,u,v,e⟩:=x; exact ⟨t,u,v,k _ _ (.inl rfl) e⟩
 | frz ob u ih=>obtain ⟨e,q⟩:=x; exact ⟨k _ _ (.inl rfl) e,ih q⟩
 | tbl ps=>
  have e:h.get? a=some { cls:=.none,data:=.fields ps }:=x
  show h'.get? a=some { cls:=.none,data:=.fields ps }
  exact k a _ (.inl rfl) e
 | met f y=>
  have e:h.get? a=some (PySem.W.methodObj (.ref f) (.ref y)):=x
  show h'.get? a=some (PySem.W.methodObj (.ref f) (.ref y))
  exact k a _ (.inl rfl) e
 | ext φ=>obtain ⟨p,⟨o,e⟩,st⟩:=x; exact ⟨st _ _ p fun o q=>k _ _ (.inl rfl) q,⟨o,k _ _ (.inl rfl) e⟩,st⟩
theorem HOk.lt (x:HOk P w H h) (e:H a=some o):a<h.objs.size:=(x a o e).lt
theorem HOk.fresh (x:HOk P w H h) (e:h.objs.size<=a):H a=none:=by
 cases q:H a with
 | none=>rfl
 | some u=>exact absurd (Nat.lt_of_lt_of_le (x.lt q) e) (Nat.lt_irrefl _)
theorem HOk.kept (x:HOk P w H h) (k:∀ b u,h.get? b=some u->h'.get? b=some u):HOk P w H h':=fun a o e=>
 (x a o e).stay (fun b u _ q=>k b u q) (fun _ q=>q) fun _ _ q=>q
theorem HOk.laid (x:HOk P w H h) (k:∀ b u,h.get? b=some u->h'.get? b=some u) (hp:h.objs.size<=a) (new:zq P w (upd H a o) h' a o):HOk P w (upd H a o) h':=fun b u e=>by
 have hn:=x.fresh hp
 by_cases hb:b=a
 ·subst hb; rw [qd] at e; cases e; exact new
 ·rw [qa hb] at e
  exact (x b u e).stay (fun c v _ q=>k c v q) (fun c q=>by rw [qa (qg q hn)]; exact q) fun c xs q=>by rw [qa (qg q hn)]; exact q
end
def Rd (H:Hp) (a:Addr) (u:HO):Prop:=H a=some u \/ ∃ o,H a=some (.frz o u)
theorem Rd.ok {P:Program} {w:World} {H:Hp} {h:Heap} {a:Addr} {u:HO} (r:Rd H a u) (x:HOk P w H h):zq P w H h a u:=by
 rcases r with r | ⟨o,r⟩
 ·exact x a u r
 ·obtain ⟨_,q⟩:=x a _ r
  exact q
def Mut:Option HO->Prop
 | some (.lst _)=>True
 | some (.dK _)=>True
 | some (.dT _)=>True
 | some (.set _ _)=>True
 | some (.ins _ _ _)=>True
 | some (.ext _)=>True
 | _=>False
section
variable {P:Program} {w:World} {H:Hp} {h h':Heap} {x e:Addr} {o':HO}
theorem HOk.write (ok:HOk P w H h) (mu:Mut (H x)) (he:e=x \/ H e=some (.own x)) (k:∀ b u,b≠e->h.get? b=some u->h'.get? b=some u) (heo:∃ u,h'.get? e=some u)
  (new:zq P w (upd H x o') h' x o'):HOk P w (upd H x o') h':=fun b u q=>by
 have nown:∀ c y,H c=some (.own y)->c≠x:=fun c y r z=>by subst z; rw [r] at mu; exact mu
 have ntup:∀ c xs,H c=some (.tup xs)->c≠x:=fun c xs r z=>by subst z; rw [r] at mu; exact mu
 by_cases hb:b=x
 ·subst hb; rw [qd] at q; cases q; exact new
 ·rw [qa hb] at q
  by_cases hbe:b=e
  ·have q':H b=some (.own x):=by
    rcases he with z | z
    ·exact absurd (hbe.trans z) hb
    ·rw [hbe]; exact z
   rw [q] at q'; cases q'
   obtain ⟨v,hv⟩:=heo
   exact ⟨v,by rw [hbe]; exact hv⟩
  ·refine (ok b u q).stay (fun c v hc r=>k c v ?_ r) (fun c r=>by rw [qa (nown c b r)]; exact r) fun c xs r=>by rw [qa (ntup c xs r)]; exact r
   rcases hc with rfl | hc
   ·exact hbe
   ·rintro rfl
    rcases he with z | z
    ·exact nown c b hc z
    ·rw [hc] at z; cases z; exact hb rfl
end
structure Un (fs ex:List Addr) (H H':Hp) (h h':Heap):Prop where
 keep:∀ b o,h.get? b=some o->H b=none->b∉fs->b∉ex->h'.get? b=some o
 slot:∀ b o,h.get? b=some o->H b=none->b∈fs->b∉ex->∃ sl,h'.get? b=some { o with slots:=sl }
 free:∀ b o,h.get? b=some o->H b=none->b∉ex->H' b=none
 there:∀ b o,h.get? b=some o->b∉ex->∃ o',h'.get? b=some o'
 tups:∀ b xs,H b=some (.tup xs)->H' b=some (.tup xs)
 frzs:∀ b o u,H b=some (.frz o u)->H' b=some (.frz o u)
 tbls:∀ b ps,H b=some (.tbl ps)->∃ more,H' b=some (.tbl (ps++more))
section
variable {fs fs' ex ex':List Addr} {H H1 H2:Hp} {h h1 h2 h':Heap} {a x e:Addr} {o:HO}
theorem Un.any (u:Un fs ex H H1 h h1) {b:Addr} {ob:Obj} (q:h.get? b=some ob) (n:H b=none) (hx:b∉ex):∃ sl,h1.get? b=some { ob with slots:=sl }:=by
 by_cases hb:b∈fs
 ·exact u.slot b ob q n hb hx
 ·exact ⟨ob.slots,u.keep b ob q n hb hx⟩
theorem Un.kept (k:∀ b u,h.get? b=some u->h'.get? b=some u):Un fs ex H H h h' :=
 ⟨fun b ob q _ _ _=>k b ob q,fun b ob q _ _ _=>⟨ob.slots,k b ob q⟩,fun _ _ _ n _=>n,fun b ob q _=>⟨ob,k b ob q⟩,fun _ _ q=>q,fun _ _ _ q=>q,fun _ ps q=>⟨#[],by rw [q]; simp⟩⟩
theorem Un.refl:Un fs ex H H h h:=Un.kept fun _ _ q=>q
theorem Un.laid (k:∀ b u,h.get? b=some u->h'.get? b=some u) (hp:h.objs.size<=a) (hn:H a=none):Un fs ex H (upd H a o) h h' where
 keep:=fun b u q _ _ _=>k b u q
 slot:=fun b u q _ _ _=>⟨u.slots,k b u q⟩
 free:=fun b u q n _=>by rw [qa (Nat.ne_of_lt (Nat.lt_of_lt_of_le (Heap.lt_size q) hp))]; exact n
 there:=fun b u q _=>⟨u,k b u q⟩
 tups:=fun b xs q=>by rw [qa (qg q hn)]; exact q
 frzs:=fun b u xs q=>by rw [qa (qg q hn)]; exact q
 tbls:=fun b ps q=>⟨#[],by rw [qa (qg q hn),q]; simp⟩
theorem Un.write (mu:Mut (H x)) (he:e=x \/ H e=some (.own x)) (k:∀ b u,b≠e->h.get? b=some u->h'.get? b=some u) (heo:∃ u,h'.get? e=some u):Un fs ex H (upd H x o) h h':=by
 have hx:∀ b,H b=none->b≠x:=fun b n z=>by subst z; rw [n] at mu; exact mu
 have hb:∀ b,H b=none->b≠e:=fun b n z=>by
  subst z
  rcases he with r | r
  ·exact hx b n r
  ·rw [n] at r; cases r
 have hm:∀ b u,H b=some u->¬ Mut (some u)->b≠x:=fun b u q nm z=>by subst z; rw [q] at mu; exact nm mu
 refine ⟨fun b u q n _ _=>k b u (hb b n) q,fun b u q n _ _=>⟨u.slots,k b u (hb b n) q⟩,fun b u q n _=>by rw [qa (hx b n)]; exact n,fun b u q _=>?_,
  fun b xs q=>by rw [qa (hm b _ q fun z=>z)]; exact q,fun b u xs q=>by rw [qa (hm b _ q fun z=>z)]; exact q,fun b ps q=>⟨#[],by rw [qa (hm b _ q fun z=>z),q]; simp⟩⟩
 by_cases hbe:b=e
 ·subst hbe; exact heo
 ·exact ⟨u,k b u hbe q⟩
end
def trk (h:Heap) (H:Hp):List Addr:=(List.range h.objs.size).filter fun a=>(H a).isSome
def Jb (h:Heap) (H:Hp):Heap:=PySem.W.hideAll h (trk h H)
theorem qgq (h:Heap) (H:Hp):(Jb h H).objs.size=h.objs.size:=PySem.W.hideAll_size _ _
theorem qhA {h:Heap} {H:Hp} {b:Addr} {o:Obj} (e:h.get? b=some o) (n:H b=none):(Jb h H).get? b=some o :=
 PySem.W.hideAll_get _ e fun hm=>by
  have q:(H b).isSome=true:=(List.mem_filter.mp hm).2
  rw [n] at q; simp at q
theorem qiI {h:Heap} {H:Hp} {b:Addr} {o:Obj} (e:(Jb h H).get? b=some o):h.get? b=some o/\H b=none:=by
 have e':h.get? b=some o:=PySem.W.of_hideAll (trk h H) e
 refine ⟨e',?_⟩
 cases q:H b with
 | none=>rfl
 | some x=>
  have hm:b∈trk h H:=List.mem_filter.mpr ⟨List.mem_range.mpr (Heap.lt_size e'),by simp [q]⟩
  have z:(Jb h H).get? b=none:=PySem.W.hideAll_none (trk h H) hm
  rw [z] at e; cases e
end L2
namespace L2
open PySem PySem.Spec PyProof.Rows
structure Mod (K:PySem.W.Frag) (mg:Str->Option Value) (base:Heap):Prop where
 kin:K.In base
 glob:base.Ns mainGlobals mg
 blt:∃ mb,base.Ns builtinsNs mb/\∀ x:Str,x ≠ "__name__" -> mb x=bootBuiltins x
 nolimit:base.NoLimit
structure Cx where
 prog:Program
 w:World
 K:PySem.W.Frag
 mg:Str->Option Value
 base:Heap
 A:Around
 N:List Str
 s_0:Shared
 H_0:Hp
 env:Env
 outer:List Env
 stack:List Env
 ex:List Addr
 fn:Str->Bool
 calm:Bool
 pn:List (Addr × Obj)
 xe:Value->Shared->Prop
def frs (l:List Env):List Addr:=l.filterMap (·.frame)
abbrev Cx.fs (X:Cx):List Addr:=frs X.outer
def Vis (sc:Scope) (x:Str):Prop:=sc.names.lookup x=some .local \/ sc.names.lookup x=some .cell \/ sc.names.lookup x=some .free
def Loc (sc:Scope) (x:Str):Prop:=sc.names.lookup x=some .local \/ sc.names.lookup x=some .cell
def Look (env:Env) (h:Heap) (m:Str->Option Value) (x:Str) (u:Value):Prop :=
 (env.kindOf x=some .local/\m x=some u) \/ ((env.kindOf x=some .cell \/ env.kindOf x=some .free)/\∃ c,env.cells.lookup x=some c/\h.IsCell c (some u))
structure Cx.Ok (X:Cx):Prop where
 mod:Mod X.K X.mg X.base
 kind:X.env.scope.kind=.function
 glob:X.env.globals=mainGlobals
 blt:X.env.builtins=builtinsNs
 above:X.s_0.heap.objs.size<=X.env.locals
 inj:∀ x y c,X.env.cells.lookup x=some c->X.env.cells.lookup y=some c->x=y
 has:∀ x,(X.env.kindOf x=some .cell \/ X.env.kindOf x=some .free)->∃ c,X.env.cells.lookup x=some c
 cab:∀ x c,X.fn x=true->X.env.cells.lookup x=some c->X.s_0.heap.objs.size<=c
 hd:X.calm=true->X.A.handled=none
 frames:X.A.frames=some X.stack
 stk:X.stack=X.outer \/ (X.stack=X.env::X.outer/\X.env.frame=some X.env.locals)
 exf:∀ b∈X.ex,b≠X.env.locals/\∀ x c,X.env.cells.lookup x=some c->c≠b
 bs:∀ b o,X.base.get? b=some o->X.s_0.heap.get? b=some o/\X.H_0 b=none
 bsz:X.base.objs.size<=X.s_0.heap.objs.size
 noex:∀ b o,X.base.get? b=some o->b∉X.ex
 exfs:∀ b∈X.ex,b∉X.fs
 funs:X.s_0.heap.FunFrames X.base X.outer
 frf:∀ b∈X.fs,X.H_0 b=none
structure Inv (X:Cx) (pins:List (Addr × Obj)) (σ : List (Option V)) (H:Hp) (s:Shared):Prop where
 ok:X.Ok
 os:s.os=X.s_0.os
 bare:AllBare s.gens
 base:Un X.fs X.ex X.H_0 H X.s_0.heap s.heap
 loc:∃ m,s.heap.Ns X.env.locals m/\∀ (i:Nat) (x:Str) (v:V),X.N[i]? = some x -> σ[i]? = some (some v)->Vis X.env.scope x->∃ u,RelV v u/\Look X.env s.heap m x u
 cell:∀ x c,X.env.cells.lookup x=some c->∃ v,s.heap.IsCell c v
 free:H X.env.locals=none
 freeC:∀ x c,X.env.cells.lookup x=some c->H c=none
 pin:∀ p∈X.pn++pins,s.heap.get? p.1=some p.2/\H p.1=none/\p.1≠X.env.locals/\p.1∉X.fs/\∀ v,p.2.data≠.cell v
 hok:HOk X.prog X.w H s.heap
 len:σ.length=X.N.length
section
variable {X:Cx} {pins:List (Addr × Obj)} {σ : List (Option V)} {H H':Hp} {s:Shared} {h':Heap}
theorem Cx.Ok.nofr (ok:X.Ok) {b:Addr} {o:Obj} (e:X.base.get? b=some o):b∉X.fs:=fun hb=>by
 have:=(ok.funs.mem hb).1
 rw [e] at this; cases this
theorem Inv.bs (I:Inv X pins σ H s):∀ b o,X.base.get? b=some o->s.heap.get? b=some o/\H b=none:=fun b o e=>
 ⟨I.base.keep b o (I.ok.bs b o e).1 (I.ok.bs b o e).2 (I.ok.nofr e) (I.ok.noex b o e),I.base.free b o (I.ok.bs b o e).1 (I.ok.bs b o e).2 (I.ok.noex b o e)⟩
theorem Inv.bk (I:Inv X pins σ H s):∀ b o,X.base.get? b=some o->s.heap.get? b=some o:=fun b o e=>(I.bs b o e).1
theorem Inv.mod (I:Inv X pins σ H s):Mod X.K X.mg X.base:=I.ok.mod
theorem Inv.kIn (I:Inv X pins σ H s):X.K.In s.heap:=I.ok.mod.kin.keeps I.bk
theorem Inv.lt (I:Inv X pins σ H s):X.env.locals<s.heap.objs.size:=let ⟨_,hn,_⟩:=I.loc; hn.lt
theorem Inv.sz (I:Inv X pins σ H s):X.s_0.heap.objs.size<=s.heap.objs.size:=Nat.le_trans I.ok.above (Nat.le_of_lt I.lt)
theorem Inv.nofs (I:Inv X pins σ H s) {a:Addr} (h:s.heap.objs.size<=a):a∉X.fs:=fun hb=>by
 obtain ⟨_,o,ho,_⟩:=I.ok.funs.mem hb
 exact absurd (Nat.lt_of_lt_of_le (Heap.lt_size ho) (Nat.le_trans I.sz h)) (Nat.lt_irrefl _)
theorem Inv.cne (I:Inv X pins σ H s):∀ x c,X.env.cells.lookup x=some c->c≠X.env.locals:=fun x c e z=>by
 obtain ⟨v,o,ho,hd⟩:=I.cell x c e
 obtain ⟨m,⟨o',es,ep,ho',hd',_⟩,_⟩:=I.loc
 rw [z,ho'] at ho; cases ho; rw [hd'] at hd; cases hd
theorem Inv.funs (I:Inv X pins σ H s):s.heap.FunFrames X.base X.outer:=by
 have all:∀ (l:List Env),(∀ b∈frs l,b∈X.fs)->X.s_0.heap.FunFrames X.base l->s.heap.FunFrames X.base l:=by
  intro l
  induction l with
  | nil=>intro _ _; trivial
  | cons env r ih=>
   intro hs hl
   obtain ⟨hk,⟨L,o,hf,hn,ho,hd⟩,hr⟩:=hl
   have hL:L∈X.fs:=hs L (by unfold frs; rw [List.filterMap_cons,hf]; exact List.mem_cons_self)
   obtain ⟨sl,e⟩:=I.base.slot L o ho (I.ok.frf L hL) hL fun z=>I.ok.exfs L z hL
   exact ⟨hk,⟨L,_,hf,hn,e,hd⟩,ih (fun b hb=>hs b (by unfold frs; rw [List.filterMap_cons,hf]; exact List.mem_cons_of_mem _ hb)) hr⟩
 exact all X.outer (fun _ hb=>hb) I.ok.funs
theorem Inv.stack (I:Inv X pins σ H s):s.heap.FunFrames X.base X.stack:=by
 rcases I.ok.stk with e | ⟨e,hf⟩
 ·rw [e]; exact I.funs
 ·rw [e]
  obtain ⟨m,hn,_⟩:=I.loc
  refine .cons (by rw [I.ok.kind]; decide) hf hn ?_ I.funs
  exact Heap.get?_none_of_le (Nat.le_trans I.ok.bsz I.ok.above)
theorem Inv.stkSub (I:Inv X pins σ H s):∀ b∈frs X.stack,b∈X.env.locals::X.fs:=fun b hb=>by
 rcases I.ok.stk with e | ⟨e,hf⟩
 ·rw [e] at hb; exact List.mem_cons_of_mem _ hb
 ·rw [e] at hb
  unfold frs at hb
  rw [List.filterMap_cons,hf] at hb
  exact hb
theorem Inv.stkFree (I:Inv X pins σ H s):∀ b∈frs X.stack,H b=none:=fun b hb=>by
 rcases List.mem_cons.mp (I.stkSub b hb) with e | hb
 ·rw [e]; exact I.free
 ·obtain ⟨_,o,ho,_⟩:=I.ok.funs.mem hb
  exact I.base.free b o ho (I.ok.frf b hb) fun z=>I.ok.exfs b z hb
theorem Inv.step {g':Array GenState} {t':Nat} {d':Drawn} {ch:List Addr} (I:Inv X pins σ H s)
  (hch:∀ b∈ch,(b∈X.ex \/ X.s_0.heap.objs.size<=b)/\b≠X.env.locals/\(∀ x c,X.env.cells.lookup x=some c->c≠b)/\∀ p∈X.pn++pins,p.1≠b)
  (keep:∀ b o,b≠X.env.locals->b∉X.fs->b∉ch->s.heap.get? b=some o->H b=none->h'.get? b=some o)
  (slot:∀ b o,b≠X.env.locals->b∈X.fs->b∉ch->s.heap.get? b=some o->H b=none->∃ sl,h'.get? b=some { o with slots:=sl }) (free:∀ b o,b∉ch->s.heap.get? b=some o->H b=none->H' b=none)
  (there:∀ b o,b∉ch->s.heap.get? b=some o->∃ o',h'.get? b=some o')
  (tups:∀ b xs,H b=some (.tup xs)->H' b=some (.tup xs)) (frzs:∀ b o u,H b=some (.frz o u)->H' b=some (.frz o u)) (tbls:∀ b ps,H b=some (.tbl ps)->∃ more,H' b=some (.tbl (ps++more)))
  (ns:∀ m,s.heap.Ns X.env.locals m->h'.Ns X.env.locals m) (hok:HOk X.prog X.w H' h') (hg:AllBare g') :
  Inv X pins σ H' { s with heap:=h',gens:=g',drawn:=d',toks:=t' }:=by
 have neL:∀ b o,X.s_0.heap.get? b=some o->b≠X.env.locals:=fun b o e=>Nat.ne_of_lt (Nat.lt_of_lt_of_le (Heap.lt_size e) I.ok.above)
 have neC:∀ b o,X.s_0.heap.get? b=some o->b∉X.ex->b∉ch:=fun b o e hx hb=>by
  rcases (hch b hb).1 with z | z
  ·exact hx z
  ·exact absurd (Nat.lt_of_lt_of_le (Heap.lt_size e) z) (Nat.lt_irrefl _)
 have cellK:∀ x c,X.env.cells.lookup x=some c->∀ v,s.heap.IsCell c v->h'.IsCell c v:=fun x c e v ⟨o,ho,hd⟩=>by
  have nch:c∉ch:=fun z=>(hch c z).2.2.1 x c e rfl
  by_cases hc:c∈X.fs
  ·obtain ⟨sl,q⟩:=slot c o (I.cne x c e) hc nch ho (I.freeC x c e)
   exact ⟨_,q,hd⟩
  ·exact ⟨o,keep c o (I.cne x c e) hc nch ho (I.freeC x c e),hd⟩
 refine ⟨I.ok,I.os,hg,⟨fun b o e n hb hx=>?_,fun b o e n hb hx=>?_,fun b o e n hx=>?_,fun b o e hx=>?_,fun b xs e=>tups b xs (I.base.tups b xs e),fun b o xs e=>frzs b o xs (I.base.frzs b o xs e),fun b ps e=>?_⟩,?_,fun x c e=>?_,?_,fun x c e=>?_,fun p hp=>?_,hok,I.len⟩
 ·exact keep b o (neL b o e) hb (neC b o e hx) (I.base.keep b o e n hb hx) (I.base.free b o e n hx)
 ·obtain ⟨sl,e1⟩:=I.base.slot b o e n hb hx
  obtain ⟨sl',e2⟩:=slot b _ (neL b o e) hb (neC b o e hx) e1 (I.base.free b o e n hx)
  exact ⟨sl',e2⟩
 ·obtain ⟨o',e1⟩:=I.base.there b o e hx
  exact free b o' (neC b o e hx) e1 (I.base.free b o e n hx)
 ·obtain ⟨o',e1⟩:=I.base.there b o e hx
  exact there b o' (neC b o e hx) e1
 ·obtain ⟨m1,e1⟩:=I.base.tbls b ps e
  obtain ⟨m2,e2⟩:=tbls b _ e1
  exact ⟨m1++m2,by rw [e2,Array.append_assoc]⟩
 ·obtain ⟨m,hn,hl⟩:=I.loc
  refine ⟨m,ns m hn,fun i x v e1 e2 e3=>?_⟩
  obtain ⟨u,r,l⟩:=hl i x v e1 e2 e3
  refine ⟨u,r,?_⟩
  rcases l with l | ⟨k,c,e,z⟩
  ·exact .inl l
  ·exact .inr ⟨k,c,e,cellK x c e _ z⟩
 ·obtain ⟨v,z⟩:=I.cell x c e
  exact ⟨v,cellK x c e v z⟩
 ·obtain ⟨m,⟨o,_,_,ho,_⟩,_⟩:=I.loc
  exact free _ o (fun z=>(hch _ z).2.1 rfl) ho I.free
 ·obtain ⟨v,o,ho,hd⟩:=I.cell x c e
  exact free c o (fun z=>(hch c z).2.2.1 x c e rfl) ho (I.freeC x c e)
 ·obtain ⟨e,n,ne,nf,d⟩:=I.pin p hp
  have nch:p.1∉ch:=fun z=>(hch p.1 z).2.2.2 p hp rfl
  exact ⟨keep p.1 p.2 ne nf nch e n,free p.1 p.2 nch e n,ne,nf,d⟩
theorem Inv.un {t':Nat} (I:Inv X pins σ H s) (u:Un X.fs [] H H' s.heap h') (hok:HOk X.prog X.w H' h'):Inv X pins σ H' { s with heap:=h',toks:=t' }:=by
 obtain ⟨m,⟨o,es,ep,ho,r⟩,_⟩:=id I.loc
 obtain ⟨sl,hL⟩:=u.any ho I.free (by simp)
 exact I.step (g':=s.gens) (d':=s.drawn) (ch:=[]) (fun _ z=>nomatch z) (fun b o _ hb _ e n=>u.keep b o e n hb (by simp)) (fun b o _ hb _ e n=>u.slot b o e n hb (by simp)) (fun b o _ e n=>u.free b o e n (by simp)) (fun b o _ e=>u.there b o e (by simp)) u.tups u.frzs u.tbls (fun m' hm=>by
  obtain ⟨o',es',ep',ho',r'⟩:=hm
  rw [ho] at ho'; cases ho'
  exact ⟨_,es',ep',hL,r'⟩) hok I.bare
theorem Inv.call {g':Array GenState} {t':Nat} {d':Drawn} {ch:List Addr} (I:Inv X pins σ H s) (u:Un (frs X.stack) ch H H' s.heap h') (hok:HOk X.prog X.w H' h') (hg:AllBare g')
  (hch:∀ b∈ch,(b∈X.ex \/ X.s_0.heap.objs.size<=b)/\b≠X.env.locals/\(∀ x c,X.env.cells.lookup x=some c->c≠b)/\∀ p∈X.pn++pins,p.1≠b) :
  Inv X pins σ H' { s with heap:=h',gens:=g',drawn:=d',toks:=t' }:=by
 obtain ⟨m,⟨o,es,ep,ho,r⟩,_⟩:=id I.loc
 obtain ⟨sl,hL⟩:=u.any ho I.free fun z=>(hch _ z).2.1 rfl
 exact I.step (ch:=ch) hch (fun b o hL hb hc e n=>u.keep b o e n (fun z=>(List.mem_cons.mp (I.stkSub b z)).elim hL hb) hc) (fun b o _ _ hc e n=>u.any e n hc) (fun b o hc e n=>u.free b o e n hc) (fun b o hc e=>u.there b o e hc) u.tups u.frzs u.tbls (fun m' hm=>by
  obtain ⟨o',es',ep',ho',r'⟩:=hm
  rw [ho] at ho'; cases ho'
  exact ⟨_,es',ep',hL,r'⟩) hok hg
theorem Inv.turned {t':Nat} {it:Addr} (I:Inv X pins σ H s) (k:∀ b o,b≠it->s.heap.get? b=some o->h'.get? b=some o) (hn:H it=none) (hL:it≠X.env.locals)
  (h1:it∈X.ex \/ X.s_0.heap.objs.size<=it) (h2:∀ x c,X.env.cells.lookup x=some c->c≠it) (h3:∀ p∈X.pn++pins,p.1≠it):Inv X pins σ H { s with heap:=h',toks:=t' }:=by
 have nit:∀ b u,H b=some u->b≠it:=fun b u e z=>by rw [z,hn] at e; cases e
 refine I.step (g':=s.gens) (d':=s.drawn) (ch:=[it]) (fun b hb=>?_) (fun b o _ _ hc e _=>k b o (fun z=>hc (by simp [z])) e) (fun b o _ _ hc e _=>⟨o.slots,k b o (fun z=>hc (by simp [z])) e⟩) (fun _ _ _ _ n=>n)
  (fun b o hc e=>⟨o,k b o (fun z=>hc (by simp [z])) e⟩) (fun _ _ e=>e) (fun _ _ _ e=>e) (fun b ps e=>⟨#[],by rw [e]; simp⟩) (fun m hm=>?_) (fun b u e=>?_) I.bare
 ·have e:b=it:=by simpa using hb
  subst e
  exact ⟨h1,hL,h2,h3⟩
 ·obtain ⟨o,es,ep,ho,r⟩:=hm
  exact ⟨o,es,ep,k _ o (Ne.symm hL) ho,r⟩
 ·refine (I.hok b u e).stay (fun c v hc q=>k c v ?_ q) (fun _ q=>q) fun _ _ q=>q
  rcases hc with z | z
  ·rw [z]; exact nit b u e
  ·exact nit c _ z
theorem Inv.tok (I:Inv X pins σ H s) (t:Nat):Inv X pins σ H { s with toks:=t }:=I.un (h':=s.heap) (t':=t) Un.refl I.hok
theorem Inv.kept {t':Nat} (I:Inv X pins σ H s) (k:∀ b u,s.heap.get? b=some u->h'.get? b=some u):Inv X pins σ H { s with heap:=h',toks:=t' }:=I.un (Un.kept k) (I.hok.kept k)
theorem Inv.laid {a:Addr} {o:HO} {t':Nat} (I:Inv X pins σ H s) (k:∀ b u,s.heap.get? b=some u->h'.get? b=some u) (hp:s.heap.objs.size<=a) (new:zq X.prog X.w (upd H a o) h' a o) :
  Inv X pins σ (upd H a o) { s with heap:=h',toks:=t' }:=I.un (Un.laid k hp (I.hok.fresh hp)) (I.hok.laid k hp new)
theorem Inv.write {x e:Addr} {o:HO} {t':Nat} (I:Inv X pins σ H s) (mu:Mut (H x)) (he:e=x \/ H e=some (.own x)) (k:∀ b u,b≠e->s.heap.get? b=some u->h'.get? b=some u) (heo:∃ u,h'.get? e=some u)
  (new:zq X.prog X.w (upd H x o) h' x o):Inv X pins σ (upd H x o) { s with heap:=h',toks:=t' }:=I.un (Un.write mu he k heo) (I.hok.write mu he k heo new)
theorem Inv.weak {σ':List (Option V)} (I:Inv X pins σ H s) (hl:σ'.length = σ.length) (w:∀ (i:Nat) v,σ'[i]? = some (some v) -> σ[i]? = some (some v)):Inv X pins σ' H s :=
 ⟨I.ok,I.os,I.bare,I.base,let ⟨m,hn,hl'⟩:=I.loc; ⟨m,hn,fun i x v e1 e2 e3=>hl' i x v e1 (w i v e2) e3⟩,I.cell,I.free,I.freeC,I.pin,I.hok,hl.trans I.len⟩
theorem Inv.pins_of {pins':List (Addr × Obj)} (I:Inv X pins σ H s) (h:∀ p∈pins',s.heap.get? p.1=some p.2/\H p.1=none/\p.1≠X.env.locals/\p.1∉X.fs/\∀ v,p.2.data≠.cell v):Inv X pins' σ H s :=
 ⟨I.ok,I.os,I.bare,I.base,I.loc,I.cell,I.free,I.freeC,fun p hp=>(List.mem_append.mp hp).elim (fun z=>I.pin p (List.mem_append_left _ z)) (h p),I.hok,I.len⟩
theorem qa2 {N:List Str} (hN:N.Nodup) {i j:Nat} {x:Str} (a:N[i]? = some x) (b:N[j]? = some x):i=j:=by
 obtain ⟨h1,e1⟩:=List.getElem?_eq_some_iff.mp a
 obtain ⟨h2,e2⟩:=List.getElem?_eq_some_iff.mp b
 exact (List.getElem_inj hN).mp (e1.trans e2.symm)
theorem qgr {M:Model} {A:Around} {E:Value->Shared->Prop} {i:Nat} {x:Str} {v:V} {u:Value} {Q:Unit->Shared->Prop} (I:Inv X pins σ H s) (hN:X.N.Nodup) (hi:X.N[i]? = some x) (hx:Loc X.env.scope x) (r:RelV v u)
  (h:∀ s',Inv X pins (σ.set i (some v)) H s'->(∃ a,Heap.SameBut a s.heap s'.heap/\(a=X.env.locals \/ X.env.cells.lookup x=some a))->Q () s') (hf:X.fn x=true \/ X.env.scope.names.lookup x=some .local:=by first | exact .inl rfl | exact .inr rfl | assumption):wpAny M A (storeName X.env x u) Q E s:=by
 obtain ⟨m,hn,hl⟩:=id I.loc
 have hcls:(X.env.scope.kind == .class||(X.env.scope.kind == .module&&X.env.locals != X.env.globals))=false:=by rw [I.ok.kind]; rfl
 have hiσ : i < σ.length:=by rw [I.len]; exact (List.getElem?_eq_some_iff.mp hi).1
 have cne:=I.cne
 have tracked:∀ {a:Addr} {h':Heap},(∃ o,s.heap.get? a=some o/\H a=none)->Heap.SameBut a s.heap h'->HOk X.prog X.w H h':=fun {a h'} ha hs b ob e=>by
  obtain ⟨_,_,hfree⟩:=ha
  refine (I.hok b ob e).stay (fun c w' hc q=>(hs.2 c ?_).trans q) (fun _ q=>q) fun _ _ q=>q
  rintro rfl
  rcases hc with rfl | hc
  ·rw [hfree] at e; cases e
  ·rw [hfree] at hc; cases hc
 rcases hx with hk | hk
 ·refine wpAny_storeName_local hk hn (fun h' hn' hs=>?_) hcls
  obtain ⟨oL,_,_,hoL,_⟩:=id hn
  refine h _ ⟨I.ok,I.os,I.bare,⟨fun b o e n hb hx=>?_,fun b o e n hb hx=>?_,I.base.free,fun b o e hx=>?_,I.base.tups,I.base.frzs,I.base.tbls⟩,⟨_,hn',fun j y v' e1 e2 e3=>?_⟩,fun y c e=>?_,I.free,I.freeC,fun p hp=>?_,tracked ⟨oL,hoL,I.free⟩ hs,by simpa using I.len⟩ ⟨_,hs,.inl rfl⟩
  ·exact (hs.2 b (Nat.ne_of_lt (Nat.lt_of_lt_of_le (Heap.lt_size e) I.ok.above))).trans (I.base.keep b o e n hb hx)
  ·obtain ⟨sl,e1⟩:=I.base.slot b o e n hb hx
   exact ⟨sl,(hs.2 b (Nat.ne_of_lt (Nat.lt_of_lt_of_le (Heap.lt_size e) I.ok.above))).trans e1⟩
  ·obtain ⟨o',e1⟩:=I.base.there b o e hx
   exact ⟨o',(hs.2 b (Nat.ne_of_lt (Nat.lt_of_lt_of_le (Heap.lt_size e) I.ok.above))).trans e1⟩
  ·by_cases hj:j=i
   ·subst hj
    rw [hi] at e1; cases e1
    rw [List.getElem?_set_self hiσ] at e2
    cases e2
    exact ⟨u,r,.inl ⟨hk,by simp⟩⟩
   ·rw [List.getElem?_set_ne (Ne.symm hj)] at e2
    obtain ⟨u',r',q⟩:=hl j y v' e1 e2 e3
    refine ⟨u',r',?_⟩
    rcases q with ⟨k,e⟩ | ⟨k,c,e,z⟩
    ·refine .inl ⟨k,?_⟩
     have:y≠x:=fun e=>hj (qa2 hN e1 (e ▸ hi))
     simp [this,e]
    ·exact .inr ⟨k,c,e,z.sameBut hs (cne y c e)⟩
  ·obtain ⟨w',z⟩:=I.cell y c e
   exact ⟨w',z.sameBut hs (cne y c e)⟩
  ·obtain ⟨e,n,ne,nf,d⟩:=I.pin p hp
   exact ⟨(hs.2 p.1 ne).trans e,n,ne,nf,d⟩
 ·have hfn:X.fn x=true:=by
   rcases hf with z | z
   ·exact z
   ·rw [z] at hk; cases hk
  obtain ⟨c,hc⟩:=I.ok.has x (.inl hk)
  obtain ⟨w',z⟩:=I.cell x c hc
  refine wpAny_storeName_cell I.ok.kind hk hc z (fun h' hc' hs=>?_)
  obtain ⟨oc,hoc,hocd⟩:=id z
  refine h { s with heap:=h' } ⟨I.ok,I.os,I.bare,⟨fun b o e n hb hx=>?_,fun b o e n hb hx=>?_,I.base.free,fun b o e hx=>?_,I.base.tups,I.base.frzs,I.base.tbls⟩,⟨m,hn.sameBut hs (Ne.symm (cne x c hc)),fun j y v' e1 e2 e3=>?_⟩,fun y c' e=>?_,I.free,I.freeC,fun p hp=>?_,tracked ⟨oc,hoc,I.freeC x c hc⟩ hs,by simpa using I.len⟩ ⟨c,hs,.inr hc⟩
  ·exact (hs.2 b (Nat.ne_of_lt (Nat.lt_of_lt_of_le (Heap.lt_size e) (I.ok.cab x c hfn hc)))).trans (I.base.keep b o e n hb hx)
  ·obtain ⟨sl,e1⟩:=I.base.slot b o e n hb hx
   exact ⟨sl,(hs.2 b (Nat.ne_of_lt (Nat.lt_of_lt_of_le (Heap.lt_size e) (I.ok.cab x c hfn hc)))).trans e1⟩
  ·obtain ⟨o',e1⟩:=I.base.there b o e hx
   exact ⟨o',(hs.2 b (Nat.ne_of_lt (Nat.lt_of_lt_of_le (Heap.lt_size e) (I.ok.cab x c hfn hc)))).trans e1⟩
  ·by_cases hj:j=i
   ·subst hj
    rw [hi] at e1; cases e1
    rw [List.getElem?_set_self hiσ] at e2
    cases e2
    exact ⟨u,r,.inr ⟨.inl hk,c,hc,hc'⟩⟩
   ·rw [List.getElem?_set_ne (Ne.symm hj)] at e2
    obtain ⟨u',r',q⟩:=hl j y v' e1 e2 e3
    refine ⟨u',r',?_⟩
    rcases q with q | ⟨k,c',e,z'⟩
    ·exact .inl q
    ·refine .inr ⟨k,c',e,z'.sameBut hs ?_⟩
     rintro rfl
     exact hj (qa2 hN e1 (I.ok.inj _ _ _ e hc ▸ hi))
  ·by_cases hcc:c'=c
   ·subst hcc; exact ⟨_,hc'⟩
   ·obtain ⟨w2,z2⟩:=I.cell y c' e
    exact ⟨w2,z2.sameBut hs hcc⟩
  ·obtain ⟨e,n,ne,nf,d⟩:=I.pin p hp
   refine ⟨(hs.2 p.1 ?_).trans e,n,ne,nf,d⟩
   intro q
   rw [q,hoc] at e
   have q':oc=p.2:=Option.some.inj e
   exact d w' (by rw [<- q']; exact hocd)
theorem Zo {M:Model} {A:Around} {E:Value->Shared->Prop} {i:Nat} {x:Str} {v:V} {u:Value} {Q:Unit->Shared->Prop} (I:Inv X pins σ H s) (hN:X.N.Nodup) (hi:X.N[i]? = some x) (hx:Loc X.env.scope x) (r:RelV v u)
  (h:∀ s',Inv X pins (σ.set i (some v)) H s'->Q () s') (hf:X.fn x=true \/ X.env.scope.names.lookup x=some .local:=by first | exact .inl rfl | exact .inr rfl | assumption):wpAny M A (storeName X.env x u) Q E s :=
 qgr I hN hi hx r (fun s' I' _=>h s' I') hf
theorem Inv.call' {s':Shared} {ch:List Addr} (I:Inv X pins σ H s) (ho:s'.os=s.os) (u:Un (frs X.stack) ch H H' s.heap s'.heap) (hok:HOk X.prog X.w H' s'.heap) (hg:AllBare s'.gens)
  (hch:∀ b∈ch,(b∈X.ex \/ X.s_0.heap.objs.size<=b)/\b≠X.env.locals/\(∀ x c,X.env.cells.lookup x=some c->c≠b)/\∀ p∈X.pn++pins,p.1≠b):Inv X pins σ H' s':=by
 obtain ⟨h',g',d',t',o'⟩:=s'
 have e:o'=s.os:=ho
 subst e
 exact I.call (g':=g') (t':=t') (d':=d') u hok hg hch
end
abbrev XK:=Value->Option Addr->Hp->Prop
abbrev St:=List (Option V)
abbrev VK:=V->Hp->Prop
abbrev TE:=St->Hp->VK->Prop
abbrev TT:=St->Hp->(Bool->Hp->Prop)->Prop
abbrev TA:=St->Hp->(List V->Hp->Prop)->Prop
structure Ends where
 nx:St->Hp->Prop
 rt:VK
 bk:St->Hp->Prop:=fun _ _=>False
 ct:St->Hp->Prop:=fun _ _=>False
abbrev TS:=Ends->St->Hp->Prop
def EP (X:Cx) (pins:List (Addr × Obj)) (σ : St) (Q:VK) (u:Value) (s':Shared):Prop:=∃ v H',Inv X pins σ H' s'/\RelV v u/\Q v H'
def TP (X:Cx) (pins:List (Addr × Obj)) (σ : St) (Q:Bool->Hp->Prop) (b:Bool) (s':Shared):Prop:=∃ H',Inv X pins σ H' s'/\Q b H'
def AP (X:Cx) (pins:List (Addr × Obj)) (σ : St) (Q:List V->Hp->Prop) (us:List Value) (s':Shared):Prop:=∃ vs H',Inv X pins σ H' s'/\qv vs us/\Q vs H'
def SP (X:Cx) (pins:List (Addr × Obj)) (D:Ends) (f:Flow) (s':Shared):Prop :=
 match f with
 | .next=>∃ σ' H',Inv X pins σ' H' s'/\D.nx σ' H'
 | .brk=>∃ σ' H',Inv X pins σ' H' s'/\D.bk σ' H'
 | .cont=>∃ σ' H',Inv X pins σ' H' s'/\D.ct σ' H'
 | .ret u=>∃ v σ' H',Inv X pins σ' H' s'/\RelV v u/\D.rt v H'
def PE (X:Cx) (e:Expr) (t:TE):Prop :=
 ∀ (pins:List (Addr × Obj)) (s:Shared) (σ : St) (H:Hp) (Q:VK),Inv X pins σ H s->t σ H Q->wpAny (model X.prog X.w) X.A (eval e X.env) (EP X pins σ Q) X.xe s
def PT (X:Cx) (e:Expr) (t:TT):Prop :=
 ∀ (pins:List (Addr × Obj)) (s:Shared) (σ : St) (H:Hp) (Q:Bool->Hp->Prop),Inv X pins σ H s->t σ H Q->wpAny (model X.prog X.w) X.A (isTrue e X.env (eval e X.env)) (TP X pins σ Q) X.xe s
def PW (X:Cx) (e:Expr) (t:TT):Prop :=
 ∀ (whole:Sem Value) (pins:List (Addr × Obj)) (s:Shared) (σ : St) (H:Hp) (Q:Bool->Hp->Prop),Inv X pins σ H s->t σ H Q->wpAny (model X.prog X.w) X.A (isTrue e X.env whole) (TP X pins σ Q) X.xe s
theorem PW.pt {X:Cx} {e:Expr} {t:TT} (h:PW X e t):PT X e t:=h _
def PA (X:Cx) (es:List Expr) (t:TA):Prop :=
 ∀ (pos:Pos) (pins:List (Addr × Obj)) (s:Shared) (σ : St) (H:Hp) (Q:List V->Hp->Prop),Inv X pins σ H s->t σ H Q->wpAny (model X.prog X.w) X.A (spliced (backTo pos (starEach es X.env))) (AP X pins σ Q) X.xe s
def PS (X:Cx) (st:Stmt) (t:TS):Prop :=
 ∀ (pins:List (Addr × Obj)) (s:Shared) (σ : St) (H:Hp) (D:Ends),Inv X pins σ H s->t D σ H->wpAny (model X.prog X.w) X.A (exec st X.env) (SP X pins D) X.xe s
def PSs (X:Cx) (st:List Stmt) (t:TS):Prop :=
 ∀ (pins:List (Addr × Obj)) (s:Shared) (σ : St) (H:Hp) (D:Ends),Inv X pins σ H s->t D σ H->wpAny (model X.prog X.w) X.A (execs st X.env) (SP X pins D) X.xe s
theorem thn {α : Type} {t:Sem α} {Q Q':α -> Shared->Prop} {M:Model} {A:Around} {E:Value->Shared->Prop} {s:Shared} (h:wpAny M A t Q E s) (hQ:∀ a s,Q a s->Q' a s):wpAny M A t Q' E s:=wpAny_mono h hQ fun _ _ x=>x
end L2
namespace L2
open PySem PySem.Spec PyProof.Rows
section
variable {X:Cx}
def jt (i:Nat):TE:=fun σ H Q=>∃ v,σ[i]? = some (some v)/\Q v H
def tC (v:V):TE:=fun _ H Q=>Q v H
theorem qdG {i:Nat} {x:Str} {pos:Pos} (hN:X.N[i]? = some x) (hv:Vis X.env.scope x) (hd:(x == ("__debug__" : Str))=false:=by decide) (hcd:(x == ("__classdict__" : Str))=false:=by decide):PE X (.Name x pos) (jt i):=by
 intro pins s σ H Q I h
 obtain ⟨v,e,h⟩:=h
 obtain ⟨m,hn,hl⟩:=I.loc
 obtain ⟨u,r,l⟩:=hl i x v hN e hv
 have fin:EP X pins σ Q u s:=⟨v,H,I,r,h⟩
 rcases l with ⟨hk,hm⟩ | ⟨hk,c,hc,hcell⟩
 ·exact wpAny_Name (wpAny_loadName_local I.ok.kind hk hn hm fin) hd
 ·rcases hk with hk | hk
  ·exact wpAny_Name (wpAny_loadName_cell I.ok.kind hk hc hcell fin) hd
  ·exact wpAny_Name (wpAny_loadName_free I.ok.kind hk hc hcell fin hcd) hd
theorem qx {i j pos}:PE X (.Constant (.int i) j pos) (tC (.int i)):=fun _ _ _ H _ I h=>wpAny_Constant_int ⟨.int i,H,I.tok _,⟨_,rfl⟩,h⟩
theorem Jc {b j pos}:PE X (.Constant (.bool b) j pos) (tC (.bl b)):=fun _ _ _ H _ I h=>Constant_bool ⟨.bl b,H,I,rfl,h⟩
theorem zh {x j pos}:PE X (.Constant (.str x) j pos) (tC (.str x)):=fun _ _ _ H _ I h=>Calls.Constant_str ⟨.str x,H,I.tok _,⟨_,rfl⟩,h⟩
def Gl (X:Cx) (x:Str):Prop:=X.env.kindOf x=some .globalImplicit
theorem jW {E:Value->Shared->Prop} {pins:List (Addr × Obj)} {s:Shared} {σ : St} {H:Hp} {x:Str} {u:Value} {pos:Pos} {Q:Value->Shared->Prop} (I:Inv X pins σ H s) (hg:Gl X x) (hm:X.mg x=some u) (h:Q u s)
  (hd:(x == ("__debug__" : Str))=false:=by decide):wpAny (model X.prog X.w) X.A (eval (.Name x pos) X.env) Q E s :=
 Calls.Name_function_global I.ok.kind hg (Calls.loadGlobal_global (by rw [I.ok.glob]; exact I.mod.glob.keeps I.bk) hm h) hd
theorem qdH {E:Value->Shared->Prop} {pins:List (Addr × Obj)} {s:Shared} {σ : St} {H:Hp} {x:Str} {u:Value} {pos:Pos} {Q:Value->Shared->Prop} (I:Inv X pins σ H s) (hg:Gl X x) (hm:X.mg x=none) (hv:bootBuiltins x=some u) (h:Q u s)
  (hn:x ≠ "__name__":=by decide) (hd:(x == ("__debug__" : Str))=false:=by decide):wpAny (model X.prog X.w) X.A (eval (.Name x pos) X.env) Q E s:=by
 obtain ⟨mb,h1,h2⟩:=I.mod.blt
 exact Calls.Name_function_global I.ok.kind hg (Calls.loadGlobal_builtin (by rw [I.ok.glob]; exact I.mod.glob.keeps I.bk) hm (by rw [I.ok.blt]; exact h1.keeps I.bk) ((h2 x hn).trans hv) h) hd
theorem qiJ {x:Str} {v:V} {u:Value} {pos:Pos} (hg:Gl X x) (hm:X.mg x=some u) (r:RelV v u) (hd:(x == ("__debug__" : Str))=false:=by decide):PE X (.Name x pos) (tC v) :=
 fun _ _ _ H _ I h=>jW I hg hm ⟨v,H,I,r,h⟩ hd
variable {a b:Expr} {ta tb:TE} {pos:Pos}
def PC (X:Cx) (op:CmpOp) (a b:Expr) (t:TE):Prop :=
 ∀ (pins:List (Addr × Obj)) (s:Shared) (σ : St) (H:Hp) (Q:VK),Inv X pins σ H s->t σ H Q ->
  wpAny (model X.prog X.w) X.A (eval a X.env) (fun v s₁=>wpAny (model X.prog X.w) X.A (eval b X.env) (fun u s₂=>wpAny (model X.prog X.w) X.A (compareOp op v u) (EP X pins σ Q) X.xe s₂) X.xe s₁) X.xe s
theorem qhB (b:Expr) {op:CmpOp} (h:op≠.In) (h2:op≠.NotIn):behindInMarks op b=false:=by
 have e1:(op == CmpOp.In)=false:=by cases op <;> first | rfl | exact absurd rfl h
 have e2:(op == CmpOp.NotIn)=false:=by cases op <;> first | rfl | exact absurd rfl h2
 cases b <;> simp [behindInMarks,e1,e2]
def qkH (ta:TE):TE:=fun σ H Q=>ta σ H fun x H1=>Q (.bl (decide (x=.non))) H1
theorem RelV.none_iff {x:V} {v:Value} (r:RelV x v):(v == Value.none)=decide (x=.non):=by
 cases x with
 | non=>cases r; rfl
 | bl _=>cases r; rfl
 | int _=>obtain ⟨t,rfl⟩:=r; rfl
 | str _=>obtain ⟨t,rfl⟩:=r; rfl
 | byt _=>obtain ⟨t,rfl⟩:=r; rfl
 | flt _=>obtain ⟨t,rfl⟩:=r; rfl
 | ref _=>cases r; rfl
 | ty _=>cases r; rfl
theorem qjE {j pos'} (ha:PE X a ta):PC X .Is a (.Constant .none j pos') (qkH ta):=by
 intro pins s σ H Q I h
 refine thn (ha pins s σ H _ I h) fun v s1 ⟨x,H1,I1,r1,q1⟩=>?_
 exact Constant_none (is_none_gen ⟨.bl _,H1,I1,by rw [r1.none_iff]; rfl,q1⟩)
def tB (t:TE):TT:=fun σ H Q=>t σ H fun x H1=>∃ c,x=.bl c/\Q c H1
theorem qdI {op:CmpOp} {t:TE} (h:PC X op a b t) (h1:behindInMarks op b=false:=by first | exact qhB _ (by decide) (by decide) | rfl):PT X (.Compare a [op] [b] pos) (tB t):=by
 intro pins s σ H Q I hw
 refine wpAny_isTrue_Compare1 (thn (h pins s σ H _ I hw) fun v s1 h1=>thn h1 fun u s2 h2=>thn h2 fun c s3 ⟨x,H1,I1,r1,q1⟩=>?_) h1
 obtain ⟨d,rfl,q⟩:=q1
 cases r1
 exact wpAny_truthy_bool ⟨H1,I1,q⟩
theorem QH {e:Expr} {t:TE} (h:PE X e t) (he:∀ whole,isTrue e X.env whole=(do let v <- whole; standAt e.pos; holding [v] (truthy v)):=by intro _; rfl):PT X e (tB t):=by
 intro pins s σ H Q I hw
 refine isTrue_plain (thn (h pins s σ H _ I hw) fun v s1 ⟨x,H1,I1,r1,q1⟩=>?_) (he _)
 obtain ⟨d,rfl,q⟩:=q1
 cases r1
 exact wpAny_truthy_bool ⟨H1,I1,q⟩
variable {tA tB':TT} {rest:List Expr}
def qjF (t u:TT):TT:=fun σ H Q=>t σ H fun c H1=>if c=true then u σ H1 Q else Q false H1
def tOr (t u:TT):TT:=fun σ H Q=>t σ H fun c H1=>if c=true then Q true H1 else u σ H1 Q
def qkI (t:TT):TT:=fun σ H Q=>t σ H fun c H1=>Q (!c) H1
theorem qb1 (ha:PT X a tA):PW X (.BoolOp .And [a] pos) tA:=by
 intro wh pins s σ H Q I h
 refine isTrue_and (thn (ha pins s σ H Q I h) fun c s1 e=>?_)
 cases c with
 | true=>exact isTrue_and_nil e
 | false=>exact e
theorem qjG (ha:PT X a tA):PW X (.BoolOp .Or [a] pos) tA:=by
 intro wh pins s σ H Q I h
 refine isTrue_or (thn (ha pins s σ H Q I h) fun c s1 e=>?_)
 cases c with
 | false=>exact isTrue_or_nil e
 | true=>exact e
theorem qdJ (ha:PT X a tA) (hb:PW X (.BoolOp .And (b::rest) pos) tB'):PW X (.BoolOp .And (a::b::rest) pos) (qjF tA tB'):=by
 intro wh pins s σ H Q I h
 refine isTrue_and (thn (ha pins s σ H _ I h) fun c s1 ⟨H1,I1,q1⟩=>?_)
 cases c with
 | true=>exact hb wh pins s1 σ H1 Q I1 q1
 | false=>exact ⟨H1,I1,q1⟩
theorem qku (ha:PT X a tA) (hb:PW X (.BoolOp .Or (b::rest) pos) tB'):PW X (.BoolOp .Or (a::b::rest) pos) (tOr tA tB'):=by
 intro wh pins s σ H Q I h
 refine isTrue_or (thn (ha pins s σ H _ I h) fun c s1 ⟨H1,I1,q1⟩=>?_)
 cases c with
 | true=>exact ⟨H1,I1,q1⟩
 | false=>exact hb wh pins s1 σ H1 Q I1 q1
theorem qgs (ha:PT X a tA):PT X (.UnaryOp .Not a pos) (qkI tA):=by
 intro pins s σ H Q I h
 exact isTrue_not (ha pins s σ H (fun c H1=>Q (!c) H1) I h)
def qhC (ta tb:TE):TE:=fun σ H Q=>ta σ H fun x H1=>∃ c,x=.bl c/\if c=true then Q (.bl true) H1 else tb σ H1 Q
theorem qgt {op} {t:TE} (h:PE X a t):PE X (.BoolOp op [a] pos) t:=fun pins s σ H Q I hw=>BoolOp_one (h pins s σ H Q I hw)
theorem qfI (ha:PE X a ta) (hb:PE X (.BoolOp .Or (b::rest) pos) tb):PE X (.BoolOp .Or (a::b::rest) pos) (qhC ta tb):=by
 intro pins s σ H Q I h
 refine BoolOp_or (thn (ha pins s σ H _ I h) fun v s1 ⟨x,H1,I1,r1,q1⟩=>?_)
 obtain ⟨c,rfl,q1⟩:=q1
 cases r1
 refine wpAny_truthy_bool ?_
 cases c with
 | false=>exact hb pins s1 σ H1 Q I1 q1
 | true=>exact ⟨.bl true,H1,I1,rfl,q1⟩
def tIf (t:TT) (ta tb:TE):TE:=fun σ H Q=>t σ H fun c H1=>if c=true then ta σ H1 Q else tb σ H1 Q
theorem qa3 {c:Expr} (hc:PT X c tA) (ha:PE X a ta) (hb:PE X b tb):PE X (.IfExp c a b pos) (tIf tA ta tb):=by
 intro pins s σ H Q I h
 refine wpAny_IfExp (thn (hc pins s σ H _ I h) fun d s1 ⟨H1,I1,q1⟩=>?_)
 cases d with
 | true=>exact ha pins s1 σ H1 Q I1 q1
 | false=>exact hb pins s1 σ H1 Q I1 q1
end
end L2
namespace L2
open PySem PySem.Spec PyProof.Rows
def SqL (K:PySem.W.Frag) (H:Hp) (a:Addr) (xs:List V):Prop :=
 Rd H a (.lst xs) \/
  ∃ (o:Obj) (its:Array Value) (n:Nat),K.lookup a=some o/\o.cls=.type "list" /\ o.dict=none/\o.data=.seq its n/\its.size<=sizeLine/\qv xs its.toList
def SqT (K:PySem.W.Frag) (H:Hp) (a:Addr) (xs:List V):Prop :=
 Rd H a (.tup xs) \/
  ∃ (o:Obj) (its:Array Value) (n:Nat),K.lookup a=some o/\o.cls=.type "tuple" /\ o.data=.seq its n/\its.size<=sizeLine/\qv xs its.toList
def qkJ:Value->Option V
 | .none=>some .non
 | .bool b=>some (.bl b)
 | .int i _=>some (.int i)
 | .str x _=>some (.str x)
 | .bytes b _=>some (.byt b)
 | .float b _=>some (.flt b)
 | .ref a=>some (.ref a)
 | .type n=>some (.ty n)
 | _=>none
theorem RelV.abs {x:V} {u:Value} (r:RelV x u):qkJ u=some x:=by
 cases x with
 | non=>cases r; rfl
 | bl _=>cases r; rfl
 | int _=>obtain ⟨t,rfl⟩:=r; rfl
 | str _=>obtain ⟨t,rfl⟩:=r; rfl
 | byt _=>obtain ⟨t,rfl⟩:=r; rfl
 | flt _=>obtain ⟨t,rfl⟩:=r; rfl
 | ref _=>cases r; rfl
 | ty _=>cases r; rfl
theorem RelV.inj {x y:V} {u:Value} (r:RelV x u) (q:RelV y u):x=y:=Option.some.inj (r.abs.symm.trans q.abs)
theorem qv.inj:∀ {xs ys:List V} {us:List Value},qv xs us->qv ys us->xs=ys
 | _,_,_,.nil,.nil=>rfl
 | _,_,_,.cons r t,.cons r' t'=>by rw [r.inj r',qv.inj t t']
section
variable {X:Cx} {pins:List (Addr × Obj)} {σ : St} {H:Hp} {s:Shared} {a:Addr} {xs ys:List V}
theorem SqL.of {K:PySem.W.Frag} (h:H a=some (.lst xs)):SqL K H a xs:=.inl (.inl h)
theorem SqT.of {K:PySem.W.Frag} (h:H a=some (.tup xs)):SqT K H a xs:=.inl (.inl h)
theorem Inv.list (I:Inv X pins σ H s) (h:SqL X.K H a xs):∃ its:List Value,qv xs its/\PlainL s.heap a its.toArray/\xs.length<=sizeLine:=by
 rcases h with h | ⟨o,its,n,hk,hc,hd,hs,hz,r⟩
 ·obtain ⟨z,its,n,r,e⟩:=h.ok I.hok
  exact ⟨its,r,⟨_,n,e,rfl,rfl,rfl⟩,z⟩
 ·refine ⟨its.toList,r,⟨o,n,I.kIn a o hk,hc,hd,by simpa using hs⟩,?_⟩
  have e:=r.length
  simp only [Array.length_toList] at e
  omega
theorem Inv.tuple (I:Inv X pins σ H s) (h:SqT X.K H a xs):∃ its:List Value,qv xs its/\IsTup s.heap a its.toArray/\xs.length<=sizeLine:=by
 rcases h with h | ⟨o,its,n,hk,hc,hs,hz,r⟩
 ·obtain ⟨z,its,r,p⟩:=h.ok I.hok
  exact ⟨its,r,p,z⟩
 ·refine ⟨its.toList,r,⟨o,I.kIn a o hk,hc,n,by simpa using hs⟩,?_⟩
  have e:=r.length
  simp only [Array.length_toList] at e
  omega
theorem Inv.list_inj (I:Inv X pins σ H s) (h:SqL X.K H a xs) (h':SqL X.K H a ys):xs=ys:=by
 obtain ⟨its,r,⟨o,n,e,_,_,d⟩,_⟩:=I.list h
 obtain ⟨its',r',⟨o',n',e',_,_,d'⟩,_⟩:=I.list h'
 rw [e] at e'; cases e'
 rw [d] at d'
 injection d' with d1 _
 have:its=its':=by simpa using congrArg Array.toList d1
 subst this
 exact r.inj r'
theorem Inv.tuple_inj (I:Inv X pins σ H s) (h:SqT X.K H a xs) (h':SqT X.K H a ys):xs=ys:=by
 obtain ⟨its,r,⟨o,e,_,n,d⟩,_⟩:=I.tuple h
 obtain ⟨its',r',⟨o',e',_,n',d'⟩,_⟩:=I.tuple h'
 rw [e] at e'; cases e'
 rw [d] at d'
 injection d' with d1 _
 have:its=its':=by simpa using congrArg Array.toList d1
 subst this
 exact r.inj r'
end
abbrev Cx.wish (X:Cx) (E:Value->Shared->Prop):Cx:={ X with xe:=E }
abbrev Cx.nox (X:Cx):Cx:=X.wish fun _ _=>False
theorem Cx.Ok.wish {X:Cx} (ok:X.Ok) (E:Value->Shared->Prop):(X.wish E).Ok :=
 ⟨ok.mod,ok.kind,ok.glob,ok.blt,ok.above,ok.inj,ok.has,ok.cab,ok.hd,ok.frames,ok.stk,ok.exf,ok.bs,ok.bsz,ok.noex,ok.exfs,ok.funs,ok.frf⟩
theorem Cx.Ok.unwish {X:Cx} {E:Value->Shared->Prop} (ok:(X.wish E).Ok):X.Ok :=
 ⟨ok.mod,ok.kind,ok.glob,ok.blt,ok.above,ok.inj,ok.has,ok.cab,ok.hd,ok.frames,ok.stk,ok.exf,ok.bs,ok.bsz,ok.noex,ok.exfs,ok.funs,ok.frf⟩
section
variable {X:Cx} {pins:List (Addr × Obj)} {σ : St} {H:Hp} {s:Shared} {E:Value->Shared->Prop}
theorem Inv.wish (I:Inv X pins σ H s) (E:Value->Shared->Prop):Inv (X.wish E) pins σ H s:=⟨I.ok.wish E,I.os,I.bare,I.base,I.loc,I.cell,I.free,I.freeC,I.pin,I.hok,I.len⟩
theorem Inv.unwish (I:Inv (X.wish E) pins σ H s):Inv X pins σ H s:=⟨I.ok.unwish,I.os,I.bare,I.base,I.loc,I.cell,I.free,I.freeC,I.pin,I.hok,I.len⟩
theorem SP.unwish {D:Ends} {f:Flow} {s':Shared} (h:SP (X.wish E) pins D f s'):SP X pins D f s':=by
 cases f with
 | next=>obtain ⟨σ',H',I,q⟩:=h; exact ⟨σ',H',I.unwish,q⟩
 | brk=>obtain ⟨σ',H',I,q⟩:=h; exact ⟨σ',H',I.unwish,q⟩
 | cont=>obtain ⟨σ',H',I,q⟩:=h; exact ⟨σ',H',I.unwish,q⟩
 | ret u=>obtain ⟨v,σ',H',I,r,q⟩:=h; exact ⟨v,σ',H',I.unwish,r,q⟩
theorem PSs.nox {st:List Stmt} {t:TS} (h:PSs X.nox st t):PSs X st t:=fun pins s σ H D I hw=>
 wpAny_mono (h pins s σ H D (I.wish _) hw) (fun _ _ q=>q.unwish) fun _ _ z=>False.elim z
end
section
variable {X:Cx} {st:Stmt} {rest:List Stmt} {t u:TS} {e:Expr} {te:TE} {pos:Pos}
def qit:TS:=fun D σ H=>D.nx σ H
def qdK (t u:TS):TS:=fun D σ H=>t { D with nx:=u D } σ H
theorem zJ:PSs X [] qit:=fun _ _ σ H _ I h=>wpAny_execs_nil ⟨σ,H,I,h⟩
theorem qi (h1:PS X st t) (h2:PSs X rest u):PSs X (st::rest) (qdK t u):=by
 intro pins s σ H D I h
 refine wpAny_execs_cons (thn (h1 pins s σ H { D with nx:=u D } I h) fun f s1 q=>?_)
 cases f with
 | next=>
  obtain ⟨σ',H',I',q⟩:=q
  exact h2 pins s1 σ' H' D I' q
 | ret v=>exact q
 | brk=>exact q
 | cont=>exact q
theorem qf (h1:PS X st t):PSs X [st] t:=by
 intro pins s σ H D I h
 refine wpAny_execs_cons (thn (h1 pins s σ H D I h) fun f s1 q=>?_)
 cases f with
 | next=>exact wpAny_execs_nil q
 | ret v=>exact q
 | brk=>exact q
 | cont=>exact q
theorem Inv.quiet {pins:List (Addr × Obj)} {σ : St} {H:Hp} {s:Shared} (I:Inv X pins σ H s):interactive X.env=false:=by simp [interactive,I.ok.kind]
def qiu (te:TE):TS:=fun D σ H=>te σ H fun _ H1=>D.nx σ H1
theorem qt (he:PE X e te) (hs:swapsWith e none pos.line X.env=pure false:=by rfl):PS X (.Expr e pos) (qiu te):=by
 intro pins s σ H D I h
 exact wpAny_Expr_any (thn (he pins s σ H _ I h) fun v s1 ⟨x,H1,I1,r1,q1⟩=>⟨σ,H1,I1,q1⟩) I.quiet hs
def qa4 (te:TE):TS:=fun D σ H=>te σ H D.rt
theorem zn (he:PE X e te):PS X (.Return (some e) pos) (qa4 te):=by
 intro pins s σ H D I h
 exact wpAny_Return_some (thn (he pins s σ H _ I h) fun v s1 ⟨x,H1,I1,r1,q1⟩=>⟨x,σ,H1,I1,r1,q1⟩)
def qkv:TS:=fun D _ H=>D.rt .non H
theorem qiK:PS X (.Return none pos) qkv:=fun _ _ σ H _ I h=>wpAny_Return_none ⟨.non,σ,H,I,rfl,h⟩
def qhD (c:TT) (t u:TS):TS:=fun D σ H=>c σ H fun b H1=>if b=true then t D σ H1 else u D σ H1
theorem qW {c:Expr} {a b:List Stmt} {tc:TT} (hc:PT X c tc) (ha:PSs X a t) (hb:PSs X b u):PS X (.If c a b pos) (qhD tc t u):=by
 intro pins s σ H D I h
 refine wpAny_If (thn (hc pins s σ H _ I h) fun d s1 ⟨H1,I1,q1⟩=>?_)
 cases d with
 | true=>exact ha pins s1 σ H1 D I1 q1
 | false=>exact hb pins s1 σ H1 D I1 q1
end
abbrev TG:=V->St->Hp->(St->Hp->Prop)->Prop
def PG (X:Cx) (target:Expr) (t:TG):Prop :=
 ∀ (pins:List (Addr × Obj)) (s:Shared) (σ : St) (H:Hp) (v:V) (u:Value) (Q:St->Hp->Prop),Inv X pins σ H s->RelV v u->t v σ H Q ->
  wpAny (model X.prog X.w) X.A (assign target X.env u) (fun _ s'=>∃ σ' H',Inv X pins σ' H' s'/\Q σ' H') X.xe s
abbrev TIp:=V->V->Hp->VK->Prop
def PIp (X:Cx) (op:Operator) (t:TIp):Prop :=
 ∀ (pins:List (Addr × Obj)) (s:Shared) (σ : St) (H:Hp) (x y:V) (v u:Value) (Q:VK),Inv X pins σ H s->RelV x v->RelV y u->t x y H Q ->
  wpAny (model X.prog X.w) X.A (inplaceOp op v u) (EP X pins σ Q) X.xe s
section
variable {X:Cx} {pos:Pos}
def Jd (i:Nat):TG:=fun v σ H Q=>Q (σ.set i (some v)) H
theorem QS {i:Nat} {x:Str} (hN:X.N.Nodup) (hi:X.N[i]? = some x) (hx:Loc X.env.scope x) (hf:X.fn x=true \/ X.env.scope.names.lookup x=some .local:=by first | exact .inl rfl | exact .inr rfl | assumption):PG X (.Name x pos) (Jd i):=by
 intro pins s σ H v u Q I r h
 exact wpAny_assign_Name (Zo I hN hi hx r (fun s' I'=>⟨_,H,I',h⟩) hf)
def qfJ (te:TE) (g:TG):TS:=fun D σ H=>te σ H fun x H1=>g x σ H1 D.nx
theorem qU {i:Nat} {x:Str} {e:Expr} {te:TE} {pos':Pos} (hN:X.N.Nodup) (hi:X.N[i]? = some x) (hx:Loc X.env.scope x) (he:PE X e te) (hs:swapsWith e (some (.Name x pos')) pos.line X.env=pure false:=by rfl) (hf:X.fn x=true \/ X.env.scope.names.lookup x=some .local:=by first | exact .inl rfl | exact .inr rfl | assumption) :
  PS X (.Assign [.Name x pos'] e pos) (qfJ te (Jd i)):=by
 intro pins s σ H D I h
 refine wpAny_Assign_Name (thn (he pins s σ H _ I h) fun v s1 ⟨y,H1,I1,r1,q1⟩=>?_) hs
 exact Zo I1 hN hi hx r1 (fun s2 I2=>⟨_,H1,I2,q1⟩) hf
def qkK (i:Nat) (te:TE) (ti:TIp):TS:=fun D σ H=>∃ x,σ[i]? = some (some x)/\te σ H fun y H1=>ti x y H1 fun z H2=>D.nx (σ.set i (some z)) H2
theorem qgu {i:Nat} {x:Str} {e:Expr} {te:TE} {op:Operator} {ti:TIp} {pos':Pos} (hN:X.N.Nodup) (hi:X.N[i]? = some x) (hx:Loc X.env.scope x) (he:PE X e te) (ho:PIp X op ti) (hf:X.fn x=true \/ X.env.scope.names.lookup x=some .local:=by first | exact .inl rfl | exact .inr rfl | assumption) :
  PS X (.AugAssign (.Name x pos') op e pos) (qkK i te ti):=by
 intro pins s σ H D I h
 obtain ⟨v,e1,h⟩:=h
 obtain ⟨m,hn,hl⟩:=I.loc
 have vis:Vis X.env.scope x:=by rcases hx with k | k; exact .inl k; exact .inr (.inl k)
 obtain ⟨u,r,l⟩:=hl i x v hi e1 vis
 refine wpAny_AugAssign_Name ?_
 have go:wpAny (model X.prog X.w) X.A (eval e X.env) (fun w s₂=>wpAny (model X.prog X.w) X.A (inplaceOp op u w) (fun r s₃=>wpAny (model X.prog X.w) X.A (storeName X.env x r) (fun _=>SP X pins D .next) X.xe s₃) X.xe s₂) X.xe s:=by
  refine thn (he pins s σ H _ I h) fun w s1 ⟨y,H1,I1,r1,q1⟩=>?_
  refine thn (ho pins s1 σ H1 v y u w _ I1 r r1 q1) fun z s2 ⟨zv,H2,I2,r2,q2⟩=>?_
  exact Zo I2 hN hi hx r2 (fun s3 I3=>⟨_,H2,I3,q2⟩) hf
 rcases l with ⟨hk,hm⟩ | ⟨hk,c,hc,hcell⟩
 ·exact wpAny_loadName_local I.ok.kind hk hn hm go
 ·rcases hk with hk | hk
  ·exact wpAny_loadName_cell I.ok.kind hk hc hcell go
  ·rcases hx with k | k
   ·have:X.env.scope.names.lookup x=some .free:=hk
    rw [k] at this; cases this
   ·have:X.env.scope.names.lookup x=some .free:=hk
    rw [k] at this; cases this
def ipI (f:Int->Int->Int):TIp:=fun x y H Q=>∃ i j,x=.int i/\y=.int j/\Q (.int (f i j)) H
theorem qgv:PIp X .Add (ipI fun i j=>i+j):=by
 intro pins s σ H x y v u Q I r1 r2 h
 obtain ⟨i,j,e1,e2,q⟩:=h
 subst e1; subst e2
 obtain ⟨t,rfl⟩:=r1
 obtain ⟨t',rfl⟩:=r2
 exact iadd_int ⟨.int _,H,I.tok _,⟨_,rfl⟩,q⟩
end
section
variable {X:Cx} {pos:Pos}
def qjH (c:TT) (tb:TS):TS:=fun D σ H=>∃ W:Nat->St->Hp->Prop,(∃ m,W m σ H)/\∀ m σ H,W m σ H ->
 c σ H fun b H1=>if b=true then ∃ N:St->Hp->Prop,(∀ σ' H',N σ' H'->∃ m',m'<m/\W m' σ' H')/\tb { D with nx:=N,ct:=N,bk:=D.nx } σ H1 else D.nx σ H1
theorem Qa {c:Expr} {body:List Stmt} {tc:TT} {tb:TS} (hp:PassesOwn (model X.prog X.w) X.A X.env X.xe) (hc:PT X c tc) (hb:PSs X body tb):PS X (.While c body [] pos) (qjH tc tb):=by
 intro pins s σ H D I h
 obtain ⟨W,⟨m0,w0⟩,turn⟩:=h
 refine wpAny_While (codeAny_whileLoop (fun n s'=>∃ σ' H',Inv X pins σ' H' s'/\W n σ' H') ?_ m0 ⟨σ,H,I,w0⟩)
 rintro n s1 ⟨σ1,H1,I1,w1⟩
 refine wpAny_passesOwn hp (thn (hc pins s1 σ1 H1 _ I1 (turn n σ1 H1 w1)) fun b s2 ⟨H2,I2,q2⟩=>?_)
 cases b with
 | true=>
  obtain ⟨N,hN,q2⟩:=q2
  rw [if_pos rfl]
  refine wpAny_passesOwn hp (thn (hb pins s2 σ1 H2 _ I2 q2) fun f s3 q3=>?_)
  cases f with
  | next=>
   obtain ⟨σ3,H3,I3,n3⟩:=q3
   obtain ⟨m',hm,w3⟩:=hN σ3 H3 n3
   exact ⟨m',hm,σ3,H3,I3,w3⟩
  | cont=>
   obtain ⟨σ3,H3,I3,n3⟩:=q3
   obtain ⟨m',hm,w3⟩:=hN σ3 H3 n3
   exact ⟨m',hm,σ3,H3,I3,w3⟩
  | brk=>exact q3
  | ret v=>exact q3
 | false=>
  rw [if_neg Bool.false_ne_true]
  exact wpAny_execs_nil ⟨σ1,H2,I2,q2⟩
end
structure It where
 go:Nat->Hp->Prop
 yld:Nat->Hp->V->Hp->Prop
 stop:Nat->Hp->Prop
def ZM (X:Cx) (pins:List (Addr × Obj)) (H:Hp) (b:Addr):Prop :=
 H b=none/\b≠X.env.locals/\b∉X.fs/\(b∈X.ex \/ X.s_0.heap.objs.size<=b)/\(∀ x c,X.env.cells.lookup x=some c->c≠b)/\∀ p∈X.pn++pins,p.1≠b
theorem Inv.fpOk {X:Cx} {pins:List (Addr × Obj)} {σ : St} {H H':Hp} {s:Shared} {b:Addr} (I:Inv X pins σ H s) (hb:s.heap.objs.size<=b) (hn:H' b=none):ZM X pins H' b:=by
 refine ⟨hn,Nat.ne_of_gt (Nat.lt_of_lt_of_le I.lt hb),I.nofs hb,.inr (Nat.le_trans I.sz hb),fun x c e z=>?_,fun p hp z=>?_⟩
 ·obtain ⟨v,q⟩:=I.cell x c e
  exact absurd (Nat.lt_of_lt_of_le q.lt (by rw [z]; exact hb)) (Nat.lt_irrefl _)
 ·exact absurd (Nat.lt_of_lt_of_le (Heap.lt_size (I.pin p hp).1) (by rw [z]; exact hb)) (Nat.lt_irrefl _)
structure Turn (P:Program) (w:World) (K:PySem.W.Frag) (tg:Expr) (J:It) (fp:List Addr) (it:Addr) (tn:Nat->Heap->Prop):Prop where
 mem:it∈fp
 obj:∀ i h,tn i h->∀ b∈fp,∃ o,h.get? b=some o/\∀ v,o.data≠.cell v
 keep:∀ i h h',tn i h->(∀ b∈fp,∀ o,h.get? b=some o->h'.get? b=some o)->tn i h'
 item:∀ (X:Cx),X.prog=P->X.w=w->X.K=K->X.calm=true->∀ (i:Nat) (pins:List (Addr × Obj)) (s:Shared) (σ : St) (H:Hp) (E:Value->Shared->Prop),Inv X pins σ H s->(∀ b∈fp,ZM X pins H b)->tn i s.heap->J.go i H ->
  wpAny (model P w) X.A (pyNext (.ref it)) (fun r s1=>∃ u,r=some u /\
   wpAny (model P w) X.A (letOwnedTupleGo tg (.ref it) u) (fun _ s2=>∃ x H',Inv X pins σ H' s2/\RelV x u/\J.yld i H x H'/\tn (i+1) s2.heap/\∀ b∈fp,H' b=none) E s1) E s
 done:∀ (X:Cx),X.prog=P->X.w=w->X.K=K->X.calm=true->∀ (i:Nat) (pins:List (Addr × Obj)) (s:Shared) (σ : St) (H:Hp) (E:Value->Shared->Prop),Inv X pins σ H s->(∀ b∈fp,ZM X pins H b)->tn i s.heap->J.stop i H ->
  wpAny (model P w) X.A (pyNext (.ref it)) (fun r s1=>r=none/\Inv X pins σ H s1) E s
 self:∀ (A:Around) (i:Nat) (s:Shared) (Q:Value->Shared->Prop) (E:Value->Shared->Prop),tn i s.heap->Q (.ref it) s->wpAny (model P w) A (pyIter (.ref it)) Q E s
abbrev TI:=St->Hp->(It->Hp->Prop)->Prop
def PIE (X:Cx) (pins:List (Addr × Obj)) (σ : St) (tg:Expr) (R:It->Hp->Prop) (itv:Value) (s2:Shared):Prop :=
 ∃ (it:Addr) (fp:List Addr) (tn:Nat->Heap->Prop) (J:It) (H':Hp),itv=.ref it/\Inv X pins σ H' s2/\Turn X.prog X.w X.K tg J fp it tn/\tn 0 s2.heap/\(∀ b∈fp,ZM X pins H' b)/\R J H'
def PI (X:Cx) (tg iter:Expr) (wi:TI):Prop :=
 ∀ (pins:List (Addr × Obj)) (s:Shared) (σ : St) (H:Hp) (R:It->Hp->Prop),Inv X pins σ H s->wi σ H R ->
  wpAny (model X.prog X.w) X.A (eval iter X.env) (fun v s1=>wpAny (model X.prog X.w) X.A (pyIter v) (PIE X pins σ tg R) X.xe s1) X.xe s
theorem qfK {M:Model} {A:Around} {E:Value->Shared->Prop} {s:Shared} {tg:Expr} {it:Addr} {u:Value} {o:Obj} {n:String} {vs:Array Value} {Q:Unit->Shared->Prop} (ho:s.heap.get? it=some o) (hc:o.cls=.type n) (hd:o.data=.fields vs)
  (hn:["enumerate","zip","dict_itemiterator","dict_reverseitemiterator","odict_iterator","itertools.zip_longest","itertools.pairwise"].contains n=false) (hQ:Q () s):wpAny M A (letOwnedTupleGo tg (.ref it) u) Q E s:=by
 unfold letOwnedTupleGo
 cases tg <;> first
  | exact wpAny_pure hQ
  | (cases u <;> first
    | exact wpAny_pure hQ
    | (refine wpAny_bind (wpAny_load ho ?_)
       rw [hc,hd]
       show wpAny M A (if (["enumerate","zip","dict_itemiterator","dict_reverseitemiterator","odict_iterator","itertools.zip_longest","itertools.pairwise"].contains n&&vs[0]? == some (rawInt _))=true then _ else _) Q E s
       rw [if_neg (by intro h; rw [hn,Bool.false_and] at h; cases h)]
       exact wpAny_pure hQ))
def Itl (K:PySem.W.Frag) (a:Addr):It :=
 ⟨fun i H=>∃ xs x,SqL K H a xs/\xs[i]? = some x,fun i H x H'=>H'=H/\∀ xs,SqL K H a xs->xs[i]? = some x,fun i H=>∃ xs,SqL K H a xs/\xs.length<=i⟩
def Itt (K:PySem.W.Frag) (a:Addr):It :=
 ⟨fun i H=>∃ xs x,SqT K H a xs/\xs[i]? = some x,fun i H x H'=>H'=H/\∀ xs,SqT K H a xs->xs[i]? = some x,fun i H=>∃ xs,SqT K H a xs/\xs.length<=i⟩
theorem qgw {P:Program} {w:World} {K:PySem.W.Frag} {tg:Expr} (a it:Addr):Turn P w K tg (Itl K a) [it] it (fun i h=>h.IsListIter it a i) where
 mem:=by simp
 obj:=fun i h st b hb=>by
  have e:b=it:=by simpa using hb
  subst e
  obtain ⟨o,e,c,d⟩:=st
  exact ⟨o,e,fun v z=>by rw [d] at z; cases z⟩
 keep:=fun i h h' st k=>st.at fun o e=>k it (by simp) o e
 item:=by
  intro X hP hw hK hc i pins s σ H E I hf st hg
  subst hP hw hK
  obtain ⟨xs,x,hq,hx⟩:=hg
  obtain ⟨its,rv,p,hz⟩:=I.list hq
  obtain ⟨u,hu,ru⟩:=rv.get hx
  obtain ⟨f0,f1,f2,f3,f4,f5⟩:=hf it (by simp)
  refine wpAny_pyNext_list_item st p.isList (x:=u) (by simpa using hu) fun h' st' sb=>?_
  have I1:Inv X pins σ H { s with heap:=h' }:=I.turned (t':=s.toks) (fun b o hb e=>(sb.2 b hb).trans e) f0 f1 f3 f4 f5
  obtain ⟨o,e,c,d⟩:=id st'
  exact ⟨u,rfl,qfK (s:={ s with heap:=h' }) e c d (by decide) ⟨x,H,I1,ru,⟨rfl,fun ys hy=>by rw [I.list_inj hy hq]; exact hx⟩,st',fun b hb=>(hf b hb).1⟩⟩
 done:=by
  intro X hP hw hK hc i pins s σ H E I hf st hg
  subst hP hw hK
  obtain ⟨xs,hq,hx⟩:=hg
  obtain ⟨its,rv,p,hz⟩:=I.list hq
  obtain ⟨f0,f1,f2,f3,f4,f5⟩:=hf it (by simp)
  have hl:=rv.length
  exact wpAny_pyNext_list_end (I.ok.hd hc) st p.isList (by simp; omega) fun h' eb=>⟨rfl,I.turned (t':=s.toks) (fun b o hb e=>eb b o hb e) f0 f1 f3 f4 f5⟩
 self:=fun _ _ _ _ _ st h=>wpAny_pyIter_listiter st h
theorem qfL {P:Program} {w:World} {K:PySem.W.Frag} {tg:Expr} (a it:Addr):Turn P w K tg (Itt K a) [it] it (fun i h=>h.IsTupleIter it a i) where
 mem:=by simp
 obj:=fun i h st b hb=>by
  have e:b=it:=by simpa using hb
  subst e
  obtain ⟨o,e,c,d⟩:=st
  exact ⟨o,e,fun v z=>by rw [d] at z; cases z⟩
 keep:=fun i h h' st k=>st.at fun o e=>k it (by simp) o e
 item:=by
  intro X hP hw hK hc i pins s σ H E I hf st hg
  subst hP hw hK
  obtain ⟨xs,x,hq,hx⟩:=hg
  obtain ⟨its,rv,p,hz⟩:=I.tuple hq
  obtain ⟨u,hu,ru⟩:=rv.get hx
  obtain ⟨f0,f1,f2,f3,f4,f5⟩:=hf it (by simp)
  refine wpAny_pyNext_tuple_item st (show s.heap.IsTuple a its.toArray from p) (x:=u) (by simpa using hu) fun h' st' sb=>?_
  have I1:Inv X pins σ H { s with heap:=h' }:=I.turned (t':=s.toks) (fun b o hb e=>(sb.2 b hb).trans e) f0 f1 f3 f4 f5
  obtain ⟨o,e,c,d⟩:=id st'
  exact ⟨u,rfl,qfK (s:={ s with heap:=h' }) e c d (by decide) ⟨x,H,I1,ru,⟨rfl,fun ys hy=>by rw [I.tuple_inj hy hq]; exact hx⟩,st',fun b hb=>(hf b hb).1⟩⟩
 done:=by
  intro X hP hw hK hc i pins s σ H E I hf st hg
  subst hP hw hK
  obtain ⟨xs,hq,hx⟩:=hg
  obtain ⟨its,rv,p,hz⟩:=I.tuple hq
  obtain ⟨f0,f1,f2,f3,f4,f5⟩:=hf it (by simp)
  have hl:=rv.length
  exact wpAny_pyNext_tuple_end (I.ok.hd hc) st (show s.heap.IsTuple a its.toArray from p) (by simp; omega) fun h' eb=>⟨rfl,I.turned (t':=s.toks) (fun b o hb e=>eb b o hb e) f0 f1 f3 f4 f5⟩
 self:=fun _ _ _ _ _ st h=>wpAny_pyIter_tupleiter st h
end L2
namespace L2
open PySem PySem.Spec PyProof.Rows
section
variable {X:Cx} {tg:Expr}
def qkw (K:PySem.W.Frag) (tl:TE):TI:=fun σ H R=>tl σ H fun x H1=>∃ a,x=.ref a/\(∃ xs,SqL K H1 a xs)/\R (Itl K a) H1
def qkL (K:PySem.W.Frag) (tl:TE):TI:=fun σ H R=>tl σ H fun x H1=>∃ a,x=.ref a/\(∃ xs,SqT K H1 a xs)/\R (Itt K a) H1
theorem qb2 {l:Expr} {tl:TE} (hl:PE X l tl):PI X tg l (qkw X.K tl):=by
 intro pins s σ H R I h
 refine thn (hl pins s σ H _ I h) fun v s1 ⟨x,H1,I1,r1,q1⟩=>?_
 obtain ⟨a,e,⟨xs,hq⟩,q⟩:=q1
 subst e
 cases r1
 obtain ⟨its,rv,p,hz⟩:=I1.list hq
 refine wpAny_pyIter_list p.isList ?_
 refine ⟨s1.heap.objs.size,[s1.heap.objs.size],_,_,H1,rfl,I1.kept (t':=s1.toks) fun b o e=>Heap.get?_push_of_some _ e,qgw a _,⟨_,Heap.get?_push_size _ rfl,rfl,rfl⟩,fun b hb=>?_,q⟩
 have e:b=s1.heap.objs.size:=by simpa using hb
 subst e
 exact I1.fpOk (Nat.le_refl _) (I1.hok.fresh (Nat.le_refl _))
theorem qdL {l:Expr} {tl:TE} (hl:PE X l tl):PI X tg l (qkL X.K tl):=by
 intro pins s σ H R I h
 refine thn (hl pins s σ H _ I h) fun v s1 ⟨x,H1,I1,r1,q1⟩=>?_
 obtain ⟨a,e,⟨xs,hq⟩,q⟩:=q1
 subst e
 cases r1
 obtain ⟨its,rv,p,hz⟩:=I1.tuple hq
 refine wpAny_pyIter_tuple (show s1.heap.IsTuple a its.toArray from p) ?_
 refine ⟨s1.heap.objs.size,[s1.heap.objs.size],_,_,H1,rfl,I1.kept (t':=s1.toks) fun b o e=>Heap.get?_push_of_some _ e,qfL a _,⟨_,Heap.get?_push_size _ rfl,rfl,rfl⟩,fun b hb=>?_,q⟩
 have e:b=s1.heap.objs.size:=by simpa using hb
 subst e
 exact I1.fpOk (Nat.le_refl _) (I1.hok.fresh (Nat.le_refl _))
def qkM (wi:TI) (g:TG) (tb:TS):TS:=fun D σ H=>wi σ H fun J H1=>∃ W:Nat->Nat->St->Hp->Prop,(∃ m,W 0 m σ H1)/\∀ i m σ H,W i m σ H ->
 (J.stop i H/\D.nx σ H) \/ (J.go i H/\∃ N:St->Hp->Prop,(∀ σ' H',N σ' H'->∃ m',m'<m/\W (i+1) m' σ' H')/\∀ x H',J.yld i H x H'->g x σ H' fun σ2 H2=>tb { D with nx:=N,ct:=N,bk:=D.nx } σ2 H2)
def JT (fp:List Addr) (h:Heap):List (Addr × Obj):=fp.filterMap fun b=>(h.get? b).map fun o=>(b,o)
theorem Je {fp:List Addr} {h:Heap} {b:Addr} {o:Obj} (hb:b∈fp) (e:h.get? b=some o):(b,o)∈JT fp h:=List.mem_filterMap.mpr ⟨b,hb,by rw [e]; rfl⟩
theorem qgx {fp:List Addr} {h:Heap} {p:Addr × Obj} (hp:p∈JT fp h):p.1∈fp/\h.get? p.1=some p.2:=by
 obtain ⟨b,hb,e⟩:=List.mem_filterMap.mp hp
 cases q:h.get? b with
 | none=>rw [q] at e; cases e
 | some o=>
  rw [q] at e
  have e':(b,o)=p:=Option.some.inj e
  subst e'
  exact ⟨hb,q⟩
theorem Inv.pinned {pins:List (Addr × Obj)} {σ : St} {H:Hp} {s:Shared} {fp:List Addr} (I:Inv X pins σ H s) (hf:∀ b∈fp,ZM X pins H b) (ho:∀ b∈fp,∃ o,s.heap.get? b=some o/\∀ v,o.data≠.cell v):Inv X (pins++JT fp s.heap) σ H s :=
 I.pins_of fun p hp=>(List.mem_append.mp hp).elim (fun z=>I.pin p (List.mem_append_right _ z)) fun z=>by
  obtain ⟨hb,e⟩:=qgx z
  obtain ⟨f0,f1,f2,_⟩:=hf p.1 hb
  obtain ⟨o,e',d⟩:=ho p.1 hb
  rw [e] at e'; cases e'
  exact ⟨e,f0,f1,f2,d⟩
theorem Inv.unpinned {pins pl:List (Addr × Obj)} {σ : St} {H:Hp} {s:Shared} (I:Inv X (pins++pl) σ H s):Inv X pins σ H s:=I.pins_of fun p hp=>I.pin p (List.mem_append_right _ (List.mem_append_left _ hp))
theorem JU {iter:Expr} {body:List Stmt} {wi:TI} {g:TG} {tb:TS} {pos:Pos} (hp:PassesOwn (model X.prog X.w) X.A X.env X.xe) (hc:X.calm=true) (hi:PI X tg iter wi) (hg:PG X tg g) (hb:PSs X body tb)
  (hs:∀ x,foldedSetIterable iter X.env x=pure x:=by intro _; rfl):PS X (.For tg iter body [] pos) (qkM wi g tb):=by
 intro pins s σ H D I h
 refine wpAny_For (thn (hi pins s σ H _ I h) fun v s1 h1=>thn h1 fun itv s2 h2=>?_) hs
 obtain ⟨it,fp,tn,J,H2,e,I2,T,st2,f2,W,⟨m0,w0⟩,turn⟩:=h2
 subst e
 have stat:∀ {H':Hp},(∀ b∈fp,H' b=none)->∀ b∈fp,ZM X pins H' b:=fun hn b hb=>⟨hn b hb,(f2 b hb).2⟩
 refine codeAny_forLoop_any (fun n s'=>∃ i σ' H',Inv X pins σ' H' s'/\tn i s'.heap/\(∀ b∈fp,H' b=none)/\W i n σ' H') ?_ m0 ⟨0,σ,H2,I2,st2,fun b hb=>(f2 b hb).1,w0⟩
 rintro n s3 ⟨i,σ3,H3,I3,st3,fr3,w3⟩
 rcases turn i n σ3 H3 w3 with ⟨stop,qn⟩ | ⟨go,N,hN,step⟩
 ·refine wpAny_passesOwn hp (thn (T.done X rfl rfl rfl hc i pins s3 σ3 H3 X.xe I3 (stat fr3) st3 stop) fun r s4 ⟨hr,I4⟩=>?_)
  subst hr
  exact wpAny_execs_nil ⟨σ3,H3,I4,qn⟩
 ·refine wpAny_passesOwn hp (thn (T.item X rfl rfl rfl hc i pins s3 σ3 H3 X.xe I3 (stat fr3) st3 go) fun r s4 ⟨u,hr,h4⟩=>?_)
  subst hr
  refine wpAny_passesOwn hp (thn h4 fun _ s5 ⟨x,H5,I5,r5,y5,st5,fr5⟩=>?_)
  have I5':=I5.pinned (stat fr5) (T.obj _ _ st5)
  refine wpAny_passesOwn hp (thn (hg _ s5 σ3 H5 x u _ I5' r5 (step x H5 y5)) fun _ s6 ⟨σ6,H6,I6,q6⟩=>?_)
  refine wpAny_passesOwn hp (thn (hb _ s6 σ6 H6 _ I6 q6) fun f s7 q7=>?_)
  have again:∀ {σ7:St} {H7:Hp},Inv X (pins++JT fp s5.heap) σ7 H7 s7->N σ7 H7->∃ m,m<n/\∃ i σ' H',Inv X pins σ' H' s7/\tn i s7.heap/\(∀ b∈fp,H' b=none)/\W i m σ' H':=fun {σ7 H7} I7 n7=>by
   obtain ⟨m',hm,w7⟩:=hN σ7 H7 n7
   refine ⟨m',hm,i+1,σ7,H7,I7.unpinned,T.keep _ _ _ st5 fun b hb o e=>(I7.pin (b,o) (List.mem_append_right _ (List.mem_append_right _ (Je hb e)))).1,fun b hb=>?_,w7⟩
   obtain ⟨o,e,d⟩:=T.obj _ _ st5 b hb
   exact (I7.pin (b,o) (List.mem_append_right _ (List.mem_append_right _ (Je hb e)))).2.1
  cases f with
  | next=>obtain ⟨σ7,H7,I7,n7⟩:=q7; exact again I7 n7
  | cont=>obtain ⟨σ7,H7,I7,n7⟩:=q7; exact again I7 n7
  | brk=>obtain ⟨σ7,H7,I7,q7⟩:=q7; exact ⟨σ7,H7,I7.unpinned,q7⟩
  | ret v=>obtain ⟨x7,σ7,H7,I7,r7,q7⟩:=q7; exact ⟨x7,σ7,H7,I7.unpinned,r7,q7⟩
end
theorem qdM {K:PySem.W.Frag} {a:Addr} {xs:List V} {g:TG} {tb:TS} {D:Ends} {σ : St} {H:Hp} (Pv:Nat->St->Hp->Prop) (h0:Pv 0 σ H) (hl:∀ i σ H,i<=xs.length->Pv i σ H->SqL K H a xs)
  (hs:∀ i x σ H,xs[i]? = some x->Pv i σ H->g x σ H fun σ2 H2=>tb { D with nx:=Pv (i+1),ct:=Pv (i+1),bk:=D.nx } σ2 H2) (hd:∀ σ H,Pv xs.length σ H->D.nx σ H) :
  ∃ W:Nat->Nat->St->Hp->Prop,(∃ m,W 0 m σ H)/\∀ i m σ H,W i m σ H ->
   ((Itl K a).stop i H/\D.nx σ H) \/ ((Itl K a).go i H/\∃ N:St->Hp->Prop,(∀ σ' H',N σ' H'->∃ m',m'<m/\W (i+1) m' σ' H')/\∀ x H',(Itl K a).yld i H x H'->g x σ H' fun σ2 H2=>tb { D with nx:=N,ct:=N,bk:=D.nx } σ2 H2):=by
 refine ⟨fun i m σ H=>m=xs.length - i/\i<=xs.length/\Pv i σ H,⟨xs.length,by simp,Nat.zero_le _,h0⟩,?_⟩
 rintro i m σ H ⟨rfl,hi,p⟩
 have q:=hl i σ H hi p
 by_cases hlt:i<xs.length
 ·refine .inr ⟨⟨xs,xs[i],q,by simp [hlt]⟩,Pv (i+1),fun σ' H' p'=>⟨xs.length - (i+1),by omega,rfl,hlt,p'⟩,fun x H' y=>?_⟩
  obtain ⟨e,y⟩:=y
  subst e
  exact hs i x σ _ (y xs q) p
 ·have e:i=xs.length:=by omega
  subst e
  exact .inl ⟨⟨xs,q,Nat.le_refl _⟩,hd σ H p⟩
theorem qb3 {K:PySem.W.Frag} {a:Addr} {xs:List V} {g:TG} {tb:TS} {D:Ends} {σ : St} {H:Hp} (Pv:Nat->St->Hp->Prop) (h0:Pv 0 σ H) (hl:∀ i σ H,i<=xs.length->Pv i σ H->SqT K H a xs)
  (hs:∀ i x σ H,xs[i]? = some x->Pv i σ H->g x σ H fun σ2 H2=>tb { D with nx:=Pv (i+1),ct:=Pv (i+1),bk:=D.nx } σ2 H2) (hd:∀ σ H,Pv xs.length σ H->D.nx σ H) :
  ∃ W:Nat->Nat->St->Hp->Prop,(∃ m,W 0 m σ H)/\∀ i m σ H,W i m σ H ->
   ((Itt K a).stop i H/\D.nx σ H) \/ ((Itt K a).go i H/\∃ N:St->Hp->Prop,(∀ σ' H',N σ' H'->∃ m',m'<m/\W (i+1) m' σ' H')/\∀ x H',(Itt K a).yld i H x H'->g x σ H' fun σ2 H2=>tb { D with nx:=N,ct:=N,bk:=D.nx } σ2 H2):=by
 refine ⟨fun i m σ H=>m=xs.length - i/\i<=xs.length/\Pv i σ H,⟨xs.length,by simp,Nat.zero_le _,h0⟩,?_⟩
 rintro i m σ H ⟨rfl,hi,p⟩
 have q:=hl i σ H hi p
 by_cases hlt:i<xs.length
 ·refine .inr ⟨⟨xs,xs[i],q,by simp [hlt]⟩,Pv (i+1),fun σ' H' p'=>⟨xs.length - (i+1),by omega,rfl,hlt,p'⟩,fun x H' y=>?_⟩
  obtain ⟨e,y⟩:=y
  subst e
  exact hs i x σ _ (y xs q) p
 ·have e:i=xs.length:=by omega
  subst e
  exact .inl ⟨⟨xs,q,Nat.le_refl _⟩,hd σ H p⟩
end L2
namespace L2
open PySem PySem.Spec PyProof.Rows
abbrev R2:=V->V->Hp->VK->Prop
def OpR (X:Cx) (f:Value->Value->Sem Value) (r:R2):Prop :=
 ∀ (pins:List (Addr × Obj)) (s:Shared) (σ : St) (H:Hp) (x y:V) (v u:Value) (Q:VK),Inv X pins σ H s->RelV x v->RelV y u->r x y H Q ->
  wpAny (model X.prog X.w) X.A (f v u) (EP X pins σ Q) X.xe s
def UnR (X:Cx) (f:Value->Sem Value) (r:V->Hp->VK->Prop):Prop :=
 ∀ (pins:List (Addr × Obj)) (s:Shared) (σ : St) (H:Hp) (x:V) (v:Value) (Q:VK),Inv X pins σ H s->RelV x v->r x H Q ->
  wpAny (model X.prog X.w) X.A (f v) (EP X pins σ Q) X.xe s
def qaB (X:Cx) (f:Value) (r:List V->Hp->VK->Prop):Prop :=
 ∀ (pins:List (Addr × Obj)) (s:Shared) (σ : St) (H:Hp) (xs:List V) (us:List Value) (Q:VK),Inv X pins σ H s->qv xs us->r xs H Q ->
  wpAny (model X.prog X.w) X.A (call f us) (EP X pins σ Q) X.xe s
def qkN (X:Cx) (r:V->Hp->(Bool->Hp->Prop)->Prop):Prop :=
 ∀ (pins:List (Addr × Obj)) (s:Shared) (σ : St) (H:Hp) (x:V) (v:Value) (Q:Bool->Hp->Prop),Inv X pins σ H s->RelV x v->r x H Q ->
  wpAny (model X.prog X.w) X.A (truthy v) (TP X pins σ Q) X.xe s
def tOp (r:R2) (ta tb:TE):TE:=fun σ H Q=>ta σ H fun x H1=>tb σ H1 fun y H2=>r x y H2 Q
def tUn (r:V->Hp->VK->Prop) (ta:TE):TE:=fun σ H Q=>ta σ H fun x H1=>r x H1 Q
def rI0 (g:Int->Int->V):R2:=fun x y H Q=>∃ i j,x=.int i/\y=.int j/\Q (g i j) H
def rU (g:Int->V):V->Hp->VK->Prop:=fun x H Q=>∃ i,x=.int i/\Q (g i) H
section
variable {X:Cx} {a b c:Expr} {ta tb tc:TE} {pos:Pos}
theorem qhE (ha:PE X a ta) (hb:PE X b tb) {pins:List (Addr × Obj)} {s:Shared} {σ : St} {H:Hp} {R:V->V->Hp->Prop} (I:Inv X pins σ H s)
  (h:ta σ H fun x H1=>tb σ H1 fun y H2=>R x y H2) {Q:Value->Shared->Prop} {f:Value->Value->Sem Value}
  (hf:∀ v u s2 x y H2,Inv X pins σ H2 s2->RelV x v->RelV y u->R x y H2->wpAny (model X.prog X.w) X.A (f v u) Q X.xe s2) :
  wpAny (model X.prog X.w) X.A (eval a X.env) (fun v s₁=>wpAny (model X.prog X.w) X.A (eval b X.env) (fun u s₂=>wpAny (model X.prog X.w) X.A (f v u) Q X.xe s₂) X.xe s₁) X.xe s:=by
 refine thn (ha pins s σ H _ I h) fun v s1 ⟨x,H1,I1,r1,q1⟩=>?_
 refine thn (hb pins s1 σ H1 _ I1 q1) fun u s2 ⟨y,H2,I2,r2,q2⟩=>?_
 exact hf v u s2 x y H2 I2 r1 r2 q2
theorem Zh {op:Operator} {r:R2} (ho:OpR X (binaryOp op) r) (ha:PE X a ta) (hb:PE X b tb):PE X (.BinOp a op b pos) (tOp r ta tb):=by
 intro pins s σ H Q I h
 exact wpAny_BinOp (qhE ha hb I h fun v u s2 x y H2 I2 rx ry q=>ho pins s2 σ H2 x y v u Q I2 rx ry q)
theorem qdx {op:UnaryOp} {r:V->Hp->VK->Prop} (ho:UnR X (unaryOp op) r) (ha:PE X a ta):PE X (.UnaryOp op a pos) (tUn r ta):=by
 intro pins s σ H Q I h
 exact UnaryOp_ (thn (ha pins s σ H _ I h) fun v s1 ⟨x,H1,I1,r1,q1⟩=>ho pins s1 σ H1 x v Q I1 r1 q1)
theorem qjI {f:Value->Value->Sem Value} {g:Int->Int->Int}
  (rule:∀ (i j:Int) (t u:Tok) (s:Shared) (Q:Value->Shared->Prop) (E:Value->Shared->Prop),Q (.int (g i j) s.toks) { s with toks:=s.toks+1 }->wpAny (model X.prog X.w) X.A (f (.int i t) (.int j u)) Q E s) :
  OpR X f (rI0 fun i j=>.int (g i j)):=by
 intro pins s σ H x y v u Q I rx ry h
 obtain ⟨i,j,rfl,rfl,q⟩:=h
 obtain ⟨t,rfl⟩:=rx
 obtain ⟨t',rfl⟩:=ry
 exact rule i j t t' s _ _ ⟨.int (g i j),H,I.tok _,⟨_,rfl⟩,q⟩
theorem qhF {f:Value->Value->Sem Value} {g:Int->Int->Bool}
  (rule:∀ (i j:Int) (t u:Tok) (s:Shared) (Q:Value->Shared->Prop) (E:Value->Shared->Prop),Q (.bool (g i j)) s->wpAny (model X.prog X.w) X.A (f (.int i t) (.int j u)) Q E s) :
  OpR X f (rI0 fun i j=>.bl (g i j)):=by
 intro pins s σ H x y v u Q I rx ry h
 obtain ⟨i,j,rfl,rfl,q⟩:=h
 obtain ⟨t,rfl⟩:=rx
 obtain ⟨t',rfl⟩:=ry
 exact rule i j t t' s _ _ ⟨.bl (g i j),H,I,rfl,q⟩
theorem JV:OpR X (binaryOp .Add) (rI0 fun i j=>.int (i+j)):=qjI fun _ _ _ _ _ _ _ q=>add_int q
theorem qbo:OpR X (binaryOp .Sub) (rI0 fun i j=>.int (i - j)):=qjI fun _ _ _ _ _ _ _ q=>sub_int q
theorem unI {f:Value->Sem Value} {g:Int->Int}
  (rule:∀ (i:Int) (t:Tok) (s:Shared) (Q:Value->Shared->Prop) (E:Value->Shared->Prop),Q (.int (g i) s.toks) { s with toks:=s.toks+1 }->wpAny (model X.prog X.w) X.A (f (.int i t)) Q E s) :
  UnR X f (rU fun i=>.int (g i)):=by
 intro pins s σ H x v Q I rx h
 obtain ⟨i,rfl,q⟩:=h
 obtain ⟨t,rfl⟩:=rx
 exact rule i t s _ _ ⟨.int (g i),H,I.tok _,⟨_,rfl⟩,q⟩
theorem qbp:UnR X (unaryOp .USub) (rU fun i=>.int (-i)):=unI fun _ _ _ _ _ q=>neg_int q
end
def qjJ:V->V->Bool
 | .non,.non=>true | .non,.int _=>true | .int _,.non=>true | .non,.bl _=>true | .bl _,.non=>true | .non,.str _=>true | .str _,.non=>true
 | .int _,.int _=>true | .bl _,.bl _=>true | .str _,.str _=>true | .byt _,.byt _=>true
 | .int _,.str _=>true | .str _,.int _=>true | .bl _,.str _=>true | .str _,.bl _=>true
 | _,_=>false
def rEq:R2:=fun x y H Q=>qjJ x y=true/\Q (.bl (decide (x=y))) H
def rNe:R2:=fun x y H Q=>qjJ x y=true/\Q (.bl (!decide (x=y))) H
theorem jn {i j:Int}:decide (V.int i=V.int j)=(i == j):=by
 rw [Bool.eq_iff_iff]
 simp
theorem qgy {i j:Bool}:decide (V.bl i=V.bl j)=(i == j):=by
 rw [Bool.eq_iff_iff]
 simp
theorem qfl {i j:Str}:decide (V.str i=V.str j)=(i == j):=by
 rw [Bool.eq_iff_iff]
 simp
theorem qfm {i j:Array UInt8}:decide (V.byt i=V.byt j)=(i.toList == j.toList):=by
 rw [Bool.eq_iff_iff]
 cases i
 cases j
 simp
section
variable {X:Cx} {a b c:Expr} {ta tb tc:TE} {pos:Pos}
theorem qV {pins:List (Addr × Obj)} {σ : St} {H:Hp} {s:Shared} {Q:VK} {k k':Bool} (I:Inv X pins σ H s) (q:Q (.bl k) H) (e:k=k'):EP X pins σ Q (.bool k') s:=by
 subst e
 exact ⟨.bl k,H,I,rfl,q⟩
theorem jd:OpR X (compareOp .Eq) rEq:=by
 intro pins s σ H x y v u Q I rx ry h
 obtain ⟨hs,q⟩:=h
 cases x with
 | non=>
  cases rx
  cases y with
  | non=>cases ry; exact PySem.EqNone.eq_none_none (qV I q (by simp))
  | bl j=>cases ry; exact PySem.EqNone.eq_none_bool (qV I q (by simp))
  | int j=>obtain ⟨t',rfl⟩:=ry; exact PySem.EqNone.eq_none_int (qV I q (by simp))
  | str j=>obtain ⟨t',rfl⟩:=ry; exact PySem.EqNone.eq_none_str (qV I q (by simp))
  | _=>exact absurd (show false=true from hs) Bool.false_ne_true
 | bl i=>
  cases rx
  cases y with
  | non=>cases ry; exact PySem.EqNone.eq_bool_none (qV I q (by simp))
  | bl j=>cases ry; exact eq_bool (qV I q qgy)
  | str j=>obtain ⟨t',rfl⟩:=ry; exact PySem.EqMixed.eq_bool_str (qV I q (by simp))
  | _=>exact absurd (show false=true from hs) Bool.false_ne_true
 | int i=>
  obtain ⟨t,rfl⟩:=rx
  cases y with
  | non=>cases ry; exact PySem.EqNone.eq_int_none (qV I q (by simp))
  | int j=>obtain ⟨t',rfl⟩:=ry; exact eq_int (qV I q jn)
  | str j=>obtain ⟨t',rfl⟩:=ry; exact PySem.EqMixed.eq_int_str (qV I q (by simp))
  | _=>exact absurd (show false=true from hs) Bool.false_ne_true
 | str i=>
  obtain ⟨t,rfl⟩:=rx
  cases y with
  | non=>cases ry; exact PySem.EqNone.eq_str_none (qV I q (by simp))
  | bl j=>cases ry; exact PySem.EqMixed.eq_str_bool (qV I q (by simp))
  | int j=>obtain ⟨t',rfl⟩:=ry; exact PySem.EqMixed.eq_str_int (qV I q (by simp))
  | str j=>obtain ⟨t',rfl⟩:=ry; exact eq_str (qV I q qfl)
  | _=>exact absurd (show false=true from hs) Bool.false_ne_true
 | byt i=>
  obtain ⟨t,rfl⟩:=rx
  cases y with
  | byt j=>obtain ⟨t',rfl⟩:=ry; exact PySem.W.eq_bytes (qV I q qfm)
  | _=>exact absurd (show false=true from hs) Bool.false_ne_true
 | _=>cases y <;> exact absurd (show false=true from hs) Bool.false_ne_true
theorem qkx:OpR X (compareOp .NotEq) rNe:=by
 intro pins s σ H x y v u Q I rx ry h
 obtain ⟨hs,q⟩:=h
 cases x with
 | non=>
  cases rx
  cases y with
  | non=>cases ry; exact PySem.EqNone.ne_none_none (qV I q (by simp))
  | bl j=>cases ry; exact PySem.EqNone.ne_none_bool (qV I q (by simp))
  | int j=>obtain ⟨t',rfl⟩:=ry; exact PySem.EqNone.ne_none_int (qV I q (by simp))
  | str j=>obtain ⟨t',rfl⟩:=ry; exact PySem.EqNone.ne_none_str (qV I q (by simp))
  | _=>exact absurd (show false=true from hs) Bool.false_ne_true
 | bl i=>
  cases rx
  cases y with
  | non=>cases ry; exact PySem.EqNone.ne_bool_none (qV I q (by simp))
  | bl j=>cases ry; exact ne_bool (qV I q (congrArg not qgy))
  | str j=>obtain ⟨t',rfl⟩:=ry; exact PySem.EqMixed.ne_bool_str (qV I q (by simp))
  | _=>exact absurd (show false=true from hs) Bool.false_ne_true
 | int i=>
  obtain ⟨t,rfl⟩:=rx
  cases y with
  | non=>cases ry; exact PySem.EqNone.ne_int_none (qV I q (by simp))
  | int j=>obtain ⟨t',rfl⟩:=ry; exact ne_int (qV I q (congrArg not jn))
  | str j=>obtain ⟨t',rfl⟩:=ry; exact PySem.EqMixed.ne_int_str (qV I q (by simp))
  | _=>exact absurd (show false=true from hs) Bool.false_ne_true
 | str i=>
  obtain ⟨t,rfl⟩:=rx
  cases y with
  | non=>cases ry; exact PySem.EqNone.ne_str_none (qV I q (by simp))
  | bl j=>cases ry; exact PySem.EqMixed.ne_str_bool (qV I q (by simp))
  | int j=>obtain ⟨t',rfl⟩:=ry; exact PySem.EqMixed.ne_str_int (qV I q (by simp))
  | str j=>obtain ⟨t',rfl⟩:=ry; exact ne_str (qV I q (congrArg not qfl))
  | _=>exact absurd (show false=true from hs) Bool.false_ne_true
 | byt i=>
  obtain ⟨t,rfl⟩:=rx
  cases y with
  | byt j=>obtain ⟨t',rfl⟩:=ry; exact PySem.W.ne_bytes (qV I q (congrArg not qfm))
  | _=>exact absurd (show false=true from hs) Bool.false_ne_true
 | _=>cases y <;> exact absurd (show false=true from hs) Bool.false_ne_true
theorem qiv:OpR X (compareOp .Lt) (rI0 fun i j=>.bl (decide (i<j))):=qhF fun _ _ _ _ _ _ _ q=>lt_int q
theorem qaC:OpR X (compareOp .LtE) (rI0 fun i j=>.bl (decide (i<=j))):=qhF fun _ _ _ _ _ _ _ q=>le_int q
theorem qaD:OpR X (compareOp .Gt) (rI0 fun i j=>.bl (decide (j<i))):=qhF fun _ _ _ _ _ _ _ q=>gt_int q
theorem qN (b:Expr) {op:CmpOp} (h:op≠.In:=by decide) (h2:op≠.NotIn:=by decide):behindInMarks op b=false:=by
 have e1:(op == CmpOp.In)=false:=by cases op <;> first | rfl | exact absurd rfl h
 have e2:(op == CmpOp.NotIn)=false:=by cases op <;> first | rfl | exact absurd rfl h2
 cases b <;> simp [behindInMarks,e1,e2]
theorem qb4 {op:CmpOp} {r:R2} (ho:OpR X (compareOp op) r) (ha:PE X a ta) (hb:PE X b tb) (hm:behindInMarks op b=false):PE X (.Compare a [op] [b] pos) (tOp r ta tb):=by
 intro pins s σ H Q I h
 exact wpAny_Compare1 (qhE ha hb I h fun v u s2 x y H2 I2 rx ry q=>ho pins s2 σ H2 x y v u Q I2 rx ry q) hm
def qbq (t:TE):TT:=fun σ H Q=>t σ H fun x H'=>∃ k,x=.bl k/\Q k H'
theorem qK {op:CmpOp} {r:R2} (ho:OpR X (compareOp op) r) (ha:PE X a ta) (hb:PE X b tb) (hm:behindInMarks op b=false):PT X (.Compare a [op] [b] pos) (qbq (tOp r ta tb)):=by
 intro pins s σ H Q I h
 refine wpAny_isTrue_Compare1 (thn (ha pins s σ H _ I h) fun v s1 ⟨x,H1,I1,r1,q1⟩=>thn (hb pins s1 σ H1 _ I1 q1) fun u s2 ⟨y,H2,I2,r2,q2⟩=>
  thn (ho pins s2 σ H2 x y v u _ I2 r1 r2 q2) fun c s3 ⟨z,H3,I3,r3,k,e,q3⟩=>?_) hm
 subst e
 cases r3
 exact wpAny_truthy_bool ⟨H3,I3,q3⟩
def qdN (r r':R2) (ta tb tc:TE):TE:=fun σ H Q=>ta σ H fun x H1=>tb σ H1 fun y H2=>r x y H2 fun z H3=>∃ k,z=.bl k /\
 (if k=true then tc σ H3 fun w' H4=>r' y w' H4 Q else Q (.bl false) H3)
theorem qa5 {op op':CmpOp} {r r':R2} (ho:OpR X (compareOp op) r) (ho':OpR X (compareOp op') r') (ha:PE X a ta) (hb:PE X b tb) (hc:PE X c tc)
  (hm:lastMarks [op,op'] [b,c]=false:=by with_unfolding_all rfl):PE X (.Compare a [op,op'] [b,c] pos) (qdN r r' ta tb tc):=by
 intro pins s σ H Q I h
 refine Compare_chain (thn (ha pins s σ H _ I h) fun v s1 ⟨x,H1,I1,r1,q1⟩=>chain_link (thn (hb pins s1 σ H1 _ I1 q1) fun u s2 ⟨y,H2,I2,r2,q2⟩=>
  thn (ho pins s2 σ H2 x y v u _ I2 r1 r2 q2) fun d s3 ⟨z,H3,I3,r3,k,e,q3⟩=>?_)) hm
 subst e
 cases r3
 refine wpAny_truthy_bool ?_
 cases k with
 | false=>exact ite_ff ⟨.bl false,H3,I3,rfl,q3⟩
 | true=>exact ite_tt (chain_last (thn (hc pins s3 σ H3 _ I3 q3) fun w' s4 ⟨z',H4,I4,r4,q4⟩=>ho' pins s4 σ H4 y z' u w' Q I4 r2 r4 q4))
def qjK (K:PySem.W.Frag) (x:V) (H:Hp) (k:Bool):Prop :=
 match x with
 | .non=>k=false
 | .bl b=>k=b
 | .int i=>k=(i != 0)
 | .str y=>y.length<=sizeLine/\k=((y.length:Int) != 0)
 | .byt y=>y.size<=sizeLine/\k=((y.size:Int) != 0)
 | .ref p=>(∃ xs,SqL K H p xs/\k = !xs.isEmpty) \/ (∃ xs,SqT K H p xs/\k = !xs.isEmpty) \/ ∃ kvs,H p=some (.dK kvs)/\k = !kvs.isEmpty
 | _=>False
theorem qfM {κ : Type} {kvs:List (κ × V)} {vs:List (κ × Value)} (r:KV kvs vs):(!vs.isEmpty) = !kvs.isEmpty:=by
 cases r <;> rfl
theorem qbr {xs:List V} {its:List Value} (r:qv xs its):(!its.toArray.isEmpty) = !xs.isEmpty:=by
 cases r <;> simp
theorem qbs:(sizeLine:Nat)<2 ^ 63:=by rw [sizeLine_eq]; decide
theorem qjL:qkN X (fun x H Q=>∃ k,qjK X.K x H k/\Q k H):=by
 intro pins s σ H x v Q I rx h
 obtain ⟨k,e,q⟩:=h
 have hl:=qbs
 have hs:sizeLine=16777216:=sizeLine_eq
 cases x with
 | non=>
  cases rx
  have e':k=false:=e
  subst e'
  exact truthy_none ⟨H,I,q⟩
 | bl b=>
  cases rx
  have e':k=b:=e
  subst e'
  exact wpAny_truthy_bool ⟨H,I,q⟩
 | int i=>
  obtain ⟨t,rfl⟩:=rx
  have e':k=(i != 0):=e
  subst e'
  exact PySem.P.truthy_int ⟨H,I,q⟩
 | str y=>
  obtain ⟨t,rfl⟩:=rx
  obtain ⟨hy,e'⟩:y.length<=sizeLine/\k=((y.length:Int) != 0):=e
  subst e'
  exact PySem.P.truthy_str (by omega) ⟨H,I.tok _,q⟩
 | byt y=>
  obtain ⟨t,rfl⟩:=rx
  obtain ⟨hy,e'⟩:y.size<=sizeLine/\k=((y.size:Int) != 0):=e
  subst e'
  exact PySem.W.truthy_bytes (by omega) ⟨H,I.tok _,q⟩
 | ref p=>
  cases rx
  have e':(∃ xs,SqL X.K H p xs/\k = !xs.isEmpty) \/ (∃ xs,SqT X.K H p xs/\k = !xs.isEmpty) \/ ∃ kvs,H p=some (.dK kvs)/\k = !kvs.isEmpty:=e
  rcases e' with ⟨xs,hx,e'⟩ | ⟨xs,hx,e'⟩ | ⟨kvs,hx,e'⟩
  ·subst e'
   obtain ⟨its,r,pl,hz⟩:=I.list hx
   have hlen:=r.length
   exact wpAny_truthy_list pl.isList (by simp only [List.size_toArray]; omega) ⟨H,I.tok _,by rw [qbr r]; exact q⟩
  ·subst e'
   obtain ⟨its,r,pl,hz⟩:=I.tuple hx
   have hlen:=r.length
   exact truthy_tuple pl (by simp only [List.size_toArray]; omega) ⟨H,I.tok _,by rw [qbr r]; exact q⟩
  ·subst e'
   obtain ⟨hz,hS,vs,r,m⟩:kvs.length<=sizeLine/\(p == sysModules)=false/\∃ vs,KV kvs vs/\s.heap.DictOf (zI X.prog X.w) p vs:=I.hok p _ hx
   have hlen:kvs.length=vs.length:=Paired.length r
   exact wpAny_truthy_dict hS m (by omega) ⟨H,I.tok _,by rw [qfM r]; exact q⟩
 | _=>exact (show False from e).elim
theorem Zp (ha:PE X a ta) (he:∀ whole,isTrue a X.env whole=(do let v <- whole; standAt a.pos; holding [v] (truthy v))) :
  PT X a (fun σ H Q=>ta σ H fun x H'=>∃ k,qjK X.K x H' k/\Q k H'):=by
 intro pins s σ H Q I h
 exact isTrue_plain (thn (ha pins s σ H _ I h) fun v s1 ⟨x,H1,I1,r1,q1⟩=>qjL pins s1 σ H1 x v Q I1 r1 q1) (he _)
theorem vals1 {x:V} {us:List Value} (r:qv [x] us):∃ u,us=[u]/\RelV x u:=by
 cases r with
 | cons r1 r2=>cases r2; exact ⟨_,rfl,r1⟩
theorem qhG:qaB X (.builtin "ord") (fun xs H Q=>∃ x,xs=[.str x]/\x.length=1/\Q (.int (x.cps.getD 0 0:Nat)) H):=by
 intro pins s σ H xs us Q I r h
 obtain ⟨x,rfl,hz,q⟩:=h
 obtain ⟨u,rfl,t,rfl⟩:=vals1 r
 exact ord_of_one hz ⟨.int _,H,I.tok _,⟨_,rfl⟩,q⟩
end
end L2
namespace L2
open PySem PySem.Spec PyProof.Rows
structure qa6 (h:Heap) (x dx C:Addr) (mA:Str->Option Value):Prop where
 obj:h.get? x=some (PySem.W.instObj C dx)
 ns:h.Ns1 dx mA
 ne:dx≠x
theorem qcI {h:Heap} {dx:Addr} {mA:Str->Option Value} (n:h.Ns1 dx mA):∃ od,h.get? dx=some od/\∀ name,PySem.W.lookIn name od=some (mA name):=by
 obtain ⟨o,es,ep,ho,hd,hk,_,hm⟩:=n
 refine ⟨o,ho,fun name=>?_⟩
 have e:=hm name
 unfold nsFind findBy at e
 rw [<- Array.find?_toList] at e
 unfold PySem.W.lookIn
 rw [hd]
 dsimp only
 split
 ·rename_i y q
  rw [q] at e
  exact congrArg some e
 ·rename_i q
  rw [q] at e
  have a:es.toList.any (·.refKey)=false:=by
   rw [List.any_eq_false]
   intro y hy
   obtain ⟨z,t,hkey⟩:=hk y (Array.mem_toList_iff.mp hy)
   simp [DictEntry.refKey,hkey]
  have a':¬ es.toList.any (·.refKey)=true:=by rw [a]; exact Bool.false_ne_true
  rw [if_neg a']
  exact congrArg some e
theorem qa6.look {h:Heap} {x dx C:Addr} {mA:Str->Option Value} (I:qa6 h x dx C mA):∃ od,PySem.W.InstAt h x (PySem.W.instObj C dx) C (some od)/\∀ name,PySem.W.lookIn name od=some (mA name) :=
 let ⟨od,ho,hl⟩:=qcI I.ns
 ⟨od,⟨I.obj,rfl,rfl,ho⟩,hl⟩
section
variable {prog:Program} {w:World} {A:Around} {E:Value->Shared->Prop} {s:Shared} {K:PySem.W.Frag} {x dx C f:Addr} {mA:Str->Option Value} {name:Str} {v:Value}
theorem qiL {expr:Bool} {Q:Value->Shared->Prop} (X:K.In s.heap) (I:qa6 s.heap x dx C mA) (hg:PySem.W.plainGet K C name=true) (hh:PySem.W.hasDictIn K C=true)
  (ha:PySem.W.findIn K (.ref C) name=some none) (hv:mA name=some v) (hv':PySem.W.handedIn v=true) (h:Q v { s with toks:=s.toks+1 }) :
  wpAny (model prog w) A (getAttr (.ref x) name expr) Q E s:=by
 obtain ⟨od,J,hl⟩:=I.look
 exact PySem.W.get_value X J (PySem.W.plainGet_of hg).1 (PySem.W.findObj_own hh ha rfl (by rw [hl,hv])) hv' h
theorem qhH {pl:Sem Bool} {Q:Value × List Value->Shared->Prop} (X:K.In s.heap) (I:qa6 s.heap x dx C mA) (hg:PySem.W.plainGet K C name=true)
  (hf:PySem.W.findIn K (.ref C) name=some (some (.ref f))) (ht:PySem.W.isFn K (.ref f)=true) (hv:mA name=none) (h:Q (.ref f,[.ref x]) s) :
  wpAny (model prog w) A (getMethod (.ref x) name pl) Q E s:=by
 obtain ⟨od,J,hl⟩:=I.look
 exact PySem.W.method_fn X J (PySem.W.plainGet_of hg).1 (PySem.W.plainGet_of hg).2 hf (beq_iff_eq.mp ht) (by show (PySem.W.lookIn name od).map (·.isSome)=some false; rw [hl,hv]; rfl) h
theorem qiM {ns:List Str} {Q:Unit->Shared->Prop} (X:K.In s.heap) (I:qa6 s.heap x dx C mA)
  (hs:PySem.W.findIn K (.ref C) "__setattr__" = some (some (.builtin "object.__setattr__"))) (hp:PySem.W.plainOver K C=true) (ht:PySem.W.takerIn K C name=some none) (hh:PySem.W.hasDictIn K C=true)
  (hw:PySem.Within mA ns) (hsz:ns.length<=sizeLine)
  (h:∀ h',qa6 h' x dx C (fun y=>if y=name then some v else mA y)->Heap.SameBut dx s.heap h'->Q () { s with heap:=h',toks:=s.toks+2 }) :
  wpAny (model prog w) A (setAttr (.ref x) name v) Q E s:=by
 obtain ⟨od,J,hl⟩:=I.look
 refine PySem.W.set_plain X J hs (PySem.W.osa_open (s:={ s with toks:=s.toks+1 }) (r:=none) X J hp ht fun b=>?_)
 obtain ⟨cd,hc,hd'⟩:=PySem.W.any_some hh
 have hx:s.heap.get? x=some ⟨.ref C,some dx,.plain,#[]⟩:=I.obj
 refine wpAny_bind (wpAny_pure (wpAny_bind (wpAny_bind (wpAny_loadPart hx (wpAny_bind (PySem.W.Looks.here (s:={ s with toks:=s.toks+1 }) (PySem.W.looks_clsIn X hc) ?_))))))
 rw [hd']
 refine wpAny_pure (a:=some dx) (wpAny_bind (wpAny_pure (wpAny_bind ?_)))
 refine wpAny_nsSet1 (s:={ s with toks:=s.toks+1 }) I.ns fun h' hn2 hs2=>?_
 obtain ⟨oD,esD,epD,hoD,hdD,hcD⟩:=hn2.count (PySem.Within.cons name v hw)
 refine wpAny_bind (wpAny_lookBehind hoD (by rw [hdD]; exact pastItsLine_dict (Nat.le_trans hcD (by rw [List.length_cons]; omega))) ?_)
 exact wpAny_pure (h _ ⟨(hs2.2 _ (Ne.symm I.ne)).trans I.obj,hn2,I.ne⟩ hs2)
theorem qhI {R:Result->Shared->Prop} {vs:List Value} {kw:List (Str × Value)} (X:K.In s.heap) (hm:PySem.W.makesIn K C=true)
  (hi:PySem.W.findIn K (.ref C) "__init__" = some (some (.ref f))) (hf:PySem.W.typeIn K (.ref f)=some (.type "function"))
  (h:codeAny (model prog w) (A.under (.builtin "type.__call__" ⟨.ref C::vs,kw⟩)) (.call (.ref f) ⟨.ref (s.heap.objs.size+1)::vs,kw⟩) (PySem.W.InitBack (s.heap.objs.size+1) R)
   { s with heap:=(s.heap.push PySem.W.emptyDict).push (PySem.W.instObj C s.heap.objs.size) }) :
  codeAny (model prog w) A (.call (.ref C) ⟨vs,kw⟩) R s:=by
 obtain ⟨hh,g,d,t,os⟩:=s
 exact PySem.W.make_core (PySem.W.makes_of X hm) (PySem.W.looks_findIn X hi) (fun self=>PySem.W.bind_fn X self hf) (.inl rfl) h
end
def qL (f:Str) (v:V):List (Str × V)->List (Str × V)
 | []=>[(f,v)]
 | (g,x)::r=>if g=f then (g,v)::r else (g,x)::qL f v r
theorem ZN (f g:Str) (v:V):∀ fs:List (Str × V),(qL f v fs).lookup g=if g=f then some v else fs.lookup g
 | []=>by
  show List.lookup g [(f,v)]=_
  by_cases h:g=f
  ·have hb:(g == f)=true:=beq_iff_eq.mpr h
   simp only [List.lookup,hb,if_pos h]
  ·have hb:(g == f)=false:=beq_eq_false_iff_ne.mpr h
   simp only [List.lookup,hb,if_neg h]
 | (k,x)::r=>by
  have ih:=ZN f g v r
  rw [show qL f v ((k,x)::r)=(if k=f then (k,v)::r else (k,x)::qL f v r) from rfl]
  by_cases hk:k=f
  ·rw [if_pos hk]
   by_cases h:g=k
   ·have hb:(g == k)=true:=beq_iff_eq.mpr h
    simp only [List.lookup,hb,if_pos (h.trans hk)]
   ·have hb:(g == k)=false:=beq_eq_false_iff_ne.mpr h
    simp only [List.lookup,hb,if_neg (fun e:g=f=>h (e.trans hk.symm))]
  ·rw [if_neg hk]
   by_cases h:g=k
   ·have hb:(g == k)=true:=beq_iff_eq.mpr h
    simp only [List.lookup,hb,if_neg (fun e:g=f=>hk (h.symm.trans e))]
   ·have hb:(g == k)=false:=beq_eq_false_iff_ne.mpr h
    simp only [List.lookup,hb]
    exact ih
theorem Q8 (f:Str) (v:V):∀ fs:List (Str × V),f∈(qL f v fs).map (·.1)/\∀ g,g∈fs.map (·.1)->g∈(qL f v fs).map (·.1)
 | []=>⟨by simp [qL],fun g h=>by simp at h⟩
 | (k,x)::r=>by
  obtain ⟨i1,i2⟩:=Q8 f v r
  rw [show qL f v ((k,x)::r)=(if k=f then (k,v)::r else (k,x)::qL f v r) from rfl]
  by_cases hk:k=f
  ·rw [if_pos hk]
   subst hk
   exact ⟨by simp,fun g h=>by simpa using h⟩
  ·rw [if_neg hk]
   refine ⟨?_,fun g h=>?_⟩
   ·rw [List.map_cons]
    exact List.mem_cons_of_mem _ i1
   ·rw [List.map_cons] at h ⊢
    rcases List.mem_cons.mp h with e | e
    ·exact List.mem_cons.mpr (.inl e)
    ·exact List.mem_cons_of_mem _ (i2 g e)
theorem qaU (f:Str) (v:V):∀ fs:List (Str × V),(qL f v fs).length<=fs.length+1
 | []=>by simp [qL]
 | (k,x)::r=>by
  have ih:=qaU f v r
  rw [show qL f v ((k,x)::r)=(if k=f then (k,v)::r else (k,x)::qL f v r) from rfl]
  by_cases hk:k=f
  ·rw [if_pos hk,List.length_cons,List.length_cons]; omega
  ·rw [if_neg hk,List.length_cons,List.length_cons]; omega
theorem jq.some_of {v:V} {o:Option Value} (r:jq (some v) o):∃ u,o=some u/\RelV v u:=by
 cases o with
 | none=>exact (show False from r).elim
 | some u=>exact ⟨u,rfl,r⟩
theorem jq.none_of {o:Option Value} (r:jq none o):o=none:=by
 cases o with
 | none=>rfl
 | some u=>exact (show False from r).elim
theorem qcJ {v:V} {u:Value} (r:RelV v u):PySem.W.handedIn u=true:=by
 cases v with
 | non=>cases (show u=Value.none from r); rfl
 | bl b=>cases (show u=Value.bool b from r); rfl
 | int i=>obtain ⟨t,e⟩:=(show ∃ t,u=Value.int i t from r); cases e; rfl
 | str x=>obtain ⟨t,e⟩:=(show ∃ t,u=Value.str x t from r); cases e; rfl
 | byt b=>obtain ⟨t,e⟩:=(show ∃ t,u=Value.bytes b t from r); cases e; rfl
 | flt b=>obtain ⟨t,e⟩:=(show ∃ t,u=Value.float b t from r); cases e; rfl
 | ref a=>cases (show u=Value.ref a from r); rfl
 | ty n=>cases (show u=Value.type n from r); rfl
section
variable {P:Program} {w:World} {H H':Hp} {h h':Heap} {a C dx:Addr} {fs fs':List (Str × V)}
theorem qb5 (hok:HOk P w H h) (e:H a=some (.ins C dx fs)):∃ mA,qa6 h a dx C mA/\(∀ f,jq (fs.lookup f) (mA f))/\PySem.Within mA (fs.map (·.1))/\fs.length<=1000/\H dx=some (.own a):=by
 obtain ⟨d,z,ne,ob,mA,n,r,q⟩:=(show zq P w H h a (.ins C dx fs) from hok a _ e)
 exact ⟨mA,⟨ob,n,ne⟩,r,q,z,d⟩
end
structure Cls (K:PySem.W.Frag) (C:Addr):Prop where
 pg:PySem.W.plainGet K C Str.empty=true
 hd:PySem.W.hasDictIn K C=true
 po:PySem.W.plainOver K C=true
 sa:PySem.W.findIn K (.ref C) "__setattr__" = some (some (.builtin "object.__setattr__"))
theorem Cls.get {K:PySem.W.Frag} {C:Addr} (c:Cls K C) (f:Str):PySem.W.plainGet K C f=true:=c.pg
def qp (K:PySem.W.Frag) (C:Addr) (f:Str):Prop:=PySem.W.findIn K (.ref C) f=some none
theorem qp.taker {K:PySem.W.Frag} {C:Addr} {f:Str} (n:qp K C f):PySem.W.takerIn K C f=some none:=by
 unfold PySem.W.takerIn
 rw [show PySem.W.findIn K (.ref C) f=some none from n]
 rfl
structure qfN (K:PySem.W.Frag) (C:Addr) (m:Str) (f:Addr):Prop where
 at_:PySem.W.findIn K (.ref C) m=some (some (.ref f))
 fn:PySem.W.isFn K (.ref f)=true
 kp:PySem.W.keepIn K (.ref f)=true
section
variable {X:Cx} {pins:List (Addr × Obj)} {σ : St} {H:Hp} {s:Shared} {a C dx:Addr} {fs:List (Str × V)} {f:Str} {v:V} {A:Around} {E:Value->Shared->Prop}
theorem qbt {b:Bool} {Q:Value->Shared->Prop} (I:Inv X pins σ H s) (e:H a=some (.ins C dx fs)) (c:Cls X.K C) (n:qp X.K C f) (l:fs.lookup f=some v)
  (h:∀ u s',Inv X pins σ H s'->RelV v u->Q u s'):wpAny (model X.prog X.w) A (getAttr (.ref a) f b) Q E s:=by
 obtain ⟨mA,O,r,_,_,_⟩:=qb5 I.hok e
 obtain ⟨u,hu,ru⟩:=jq.some_of (v:=v) (o:=mA f) (by rw [<- l]; exact r f)
 exact qiL I.kIn O (c.get f) c.hd n hu (qcJ ru) (h u _ (I.tok _) ru)
theorem qbu {m:Str} {g:Addr} {pl:Sem Bool} {Q:Value × List Value->Shared->Prop} (I:Inv X pins σ H s) (e:H a=some (.ins C dx fs)) (c:Cls X.K C) (k:qfN X.K C m g) (l:fs.lookup m=none)
  (h:Q (.ref g,[.ref a]) s):wpAny (model X.prog X.w) A (getMethod (.ref a) m pl) Q E s:=by
 obtain ⟨mA,O,r,_,_,_⟩:=qb5 I.hok e
 have hn:mA m=none:=jq.none_of (by rw [<- l]; exact r m)
 exact qhH I.kIn O (c.get m) k.at_ k.fn hn h
theorem qbv {y:V} {u:Value} {Q:Unit->Shared->Prop} (I:Inv X pins σ H s) (e:H a=some (.ins C dx fs)) (c:Cls X.K C) (n:qp X.K C f) (hl:fs.length<1000) (ry:RelV y u)
  (h:∀ s',Inv X pins σ (upd H a (.ins C dx (qL f y fs))) s'->Q () s'):wpAny (model X.prog X.w) A (setAttr (.ref a) f u) Q E s:=by
 obtain ⟨mA,O,r,wi,_,ho⟩:=qb5 I.hok e
 have hz:(fs.map (·.1)).length<=sizeLine:=by rw [List.length_map,sizeLine_eq]; omega
 refine qiM I.kIn O c.sa c.po n.taker c.hd wi hz fun h' O' sb=>h _ ?_
 have hd:∃ o,h'.get? dx=some o:=let ⟨o,_,_,e',_⟩:=O'.ns; ⟨o,e'⟩
 refine I.write (x:=a) (e:=dx) (by rw [e]; exact True.intro) (.inr ho) (fun b q hb z=>(sb.2 b hb).trans z) hd ?_
 refine ⟨by rw [qa O.ne]; exact ho,?_,O.ne,O'.obj,_,O'.ns,fun g=>?_,fun g hg=>?_⟩
 ·have:=qaU f y fs; omega
 ·show jq ((qL f y fs).lookup g) (if g=f then some u else mA g)
  rw [ZN]
  by_cases q:g=f
  ·rw [if_pos q,if_pos q]; exact ry
  ·rw [if_neg q,if_neg q]; exact r g
 ·by_cases q:g=f
  ·rw [q]; exact (Q8 f y fs).1
  ·refine (Q8 f y fs).2 g (wi g fun z=>hg ?_)
   show (if g=f then some u else mA g)=none
   rw [if_neg q]; exact z
theorem Inv.made (I:Inv X pins σ H s):Inv X pins σ (upd (upd H s.heap.objs.size (.own (s.heap.objs.size+1))) (s.heap.objs.size+1) (.ins C s.heap.objs.size []))
  { s with heap:=(s.heap.push PySem.W.emptyDict).push (PySem.W.instObj C s.heap.objs.size) }:=by
 have e1:(s.heap.push PySem.W.emptyDict).get? s.heap.objs.size=some PySem.W.emptyDict:=Heap.get?_push_size s.heap rfl
 have e2:((s.heap.push PySem.W.emptyDict).push (PySem.W.instObj C s.heap.objs.size)).get? (s.heap.objs.size+1)=some (PySem.W.instObj C s.heap.objs.size):=by
  have:=Heap.get?_push_size (s.heap.push PySem.W.emptyDict) (o:=PySem.W.instObj C s.heap.objs.size) rfl
  rwa [Heap.size_push] at this
 have e3:(s.heap.push PySem.W.emptyDict).Ns s.heap.objs.size (fun _=>none):=⟨PySem.W.emptyDict,#[],_,e1,rfl,(fun e he=>absurd he (by simp)),fun _=>rfl⟩
 have I1:=I.laid (a:=s.heap.objs.size) (o:=.own (s.heap.objs.size+1)) (h':=s.heap.push PySem.W.emptyDict) (t':=s.toks) (fun b u q=>Heap.get?_push_of_some _ q) (Nat.le_refl _) ⟨_,e1⟩
 refine I1.laid (a:=s.heap.objs.size+1) (o:=.ins C s.heap.objs.size []) (t':=s.toks) (fun b u q=>Heap.get?_push_of_some _ q) (Nat.le_of_eq (Heap.size_push _ _)) ?_
 have ne:s.heap.objs.size≠s.heap.objs.size+1:=Nat.ne_of_lt (Nat.lt_succ_self _)
 refine ⟨by rw [qa ne,qd],Nat.zero_le _,ne,e2,fun _=>none,(Heap.Ns1.of_empty e3).at fun o q=>Heap.get?_push_of_some _ q,fun _=>True.intro,fun y hy=>absurd rfl hy⟩
theorem qfn {prog:Program} {w:World} {env:Env} {e:Expr} {f:Str} {pos:Pos} {s:Shared} {Q:Value->Shared->Prop} (hb:attributeBase e f env (eval e env)=eval e env)
  (h:wpAny (model prog w) A (eval e env) (fun o s₁=>wpAny (model prog w) A (getAttr o f true) Q E s₁) E s):wpAny (model prog w) A (eval (.Attribute e f pos) env) Q E s :=
 Attribute_any_ h (by rw [arm_eval_Attribute,hb])
end
def qb6 (K:PySem.W.Frag) (ta:TE) (f:Str):TE:=fun σ H Q=>ta σ H fun x H1=>∃ a C dx fs v,x=.ref a/\H1 a=some (.ins C dx fs)/\Cls K C/\qp K C f/\fs.lookup f=some v/\Q v H1
def qkO (K:PySem.W.Frag) (ta tv:TE) (f:Str):TS:=fun D σ H=>tv σ H fun y H1=>ta σ H1 fun x H2=>∃ a C dx fs,x=.ref a/\H2 a=some (.ins C dx fs)/\Cls K C/\qp K C f/\fs.length<1000 /\
 D.nx σ (upd H2 a (.ins C dx (qL f y fs)))
def qhJ (X:Cx) (op:Operator) (rd:V->V->Hp->VK->Prop):Prop :=
 ∀ (pins:List (Addr × Obj)) (s:Shared) (σ : St) (H:Hp) (x y:V) (u v:Value) (Q:VK),Inv X pins σ H s->RelV x u->RelV y v->rd x y H Q->wpAny (model X.prog X.w) X.A (inplaceOp op u v) (EP X pins σ Q) X.xe s
def qiN (K:PySem.W.Frag) (ta tv:TE) (rd:V->V->Hp->VK->Prop) (f:Str):TS:=fun D σ H=>ta σ H fun x H1=>∃ a C dx fs v,x=.ref a/\H1 a=some (.ins C dx fs)/\Cls K C/\qp K C f/\fs.lookup f=some v /\
 tv σ H1 fun y H2=>rd v y H2 fun z H3=>∃ dx' fs',H3 a=some (.ins C dx' fs')/\fs'.length<1000/\D.nx σ (upd H3 a (.ins C dx' (qL f z fs')))
section
variable {X:Cx} {o e value:Expr} {f:Str} {pos pos' tpos:Pos} {ta tv:TE}
theorem qk (he:PE X e ta) (hb:attributeBase e f X.env (eval e X.env)=eval e X.env):PE X (.Attribute e f pos) (qb6 X.K ta f):=by
 intro pins s σ H Q I h
 refine qfn hb (thn (he pins s σ H _ I h) fun u s1 ⟨x,H1,I1,rx,a,C,dx,fs,v,ex,ea,c,n,l,q⟩=>?_)
 subst ex
 obtain rfl:u=Value.ref a:=rx
 exact qbt I1 ea c n l fun u' s2 I2 ru=>⟨v,H1,I2,ru,q⟩
theorem zc (ha:PE X o ta) (hv:PE X value tv) (hs:swapsWith value (some (.Attribute o f pos')) pos.line X.env=pure false):PS X (.Assign [.Attribute o f pos'] value pos) (qkO X.K ta tv f):=by
 intro pins s σ H D I h
 refine plainObj_wpAny_Assign_Attribute (thn (hv pins s σ H _ I h) fun u s1 ⟨y,H1,I1,ry,q⟩=>thn (ha pins s1 σ H1 _ I1 q) fun ov s2 ⟨x,H2,I2,rx,a,C,dx,fs,ex,ea,c,n,l,q2⟩=>?_) hs
 subst ex
 obtain rfl:ov=Value.ref a:=rx
 exact qbv I2 ea c n l ry fun s3 I3=>⟨σ,_,I3,q2⟩
theorem jQ {op:Operator} {rd:V->V->Hp->VK->Prop} (ha:PE X o ta) (hv:PE X value tv) (hop:qhJ X op rd):PS X (.AugAssign (.Attribute o f tpos) op value pos) (qiN X.K ta tv rd f):=by
 intro pins s σ H D I h
 refine wpAny_AugAssign_AttributeAny (thn (ha pins s σ H _ I h) fun ov s1 ⟨x,H1,I1,rx,a,C,dx,fs,v,ex,ea,c,n,l,q⟩=>?_)
 subst ex
 obtain rfl:ov=Value.ref a:=rx
 refine qbt I1 ea c n l fun u s2 I2 ru=>thn (hv pins s2 σ H1 _ I2 q) fun w3 s3 ⟨y,H2,I3,ry,q3⟩=>thn (hop pins s3 σ H2 v y u w3 _ I3 ru ry q3) fun w4 s4 ⟨z,H3,I4,rz,dx',fs',ea',l',q4⟩=>?_
 exact qbv I4 ea' c n l' rz fun s5 I5=>⟨σ,_,I5,q4⟩
def qkP:V->V->Hp->VK->Prop:=fun x y H Q=>∃ i j,x=.int i/\y=.int j/\Q (.int (i+j)) H
def qkQ:V->V->Hp->VK->Prop:=fun x y H Q=>∃ i j,x=.int i/\y=.int j/\Q (.int (i - j)) H
theorem Zq:qhJ X .Add qkP:=by
 rintro pins s σ H x y u v Q I rx ry ⟨i,j,rfl,rfl,q⟩
 obtain ⟨t,rfl⟩:=(show ∃ t,u=Value.int i t from rx)
 obtain ⟨t',rfl⟩:=(show ∃ t',v=Value.int j t' from ry)
 exact PyProof.Rows.iadd_int ⟨.int (i+j),H,I.tok _,⟨_,rfl⟩,q⟩
theorem qjM:qhJ X .Sub qkQ:=by
 rintro pins s σ H x y u v Q I rx ry ⟨i,j,rfl,rfl,q⟩
 obtain ⟨t,rfl⟩:=(show ∃ t,u=Value.int i t from rx)
 obtain ⟨t',rfl⟩:=(show ∃ t',v=Value.int j t' from ry)
 exact PyProof.Rows.isub_int ⟨.int (i - j),H,I.tok _,⟨_,rfl⟩,q⟩
end
section
variable {X:Cx} {pins:List (Addr × Obj)} {σ : St} {H:Hp} {s:Shared} {A:Around} {E:Value->Shared->Prop} {Q:Value->Shared->Prop} {c:Value} {b:Bool}
end
end L2
namespace L2
open PySem PySem.Spec PyProof.Rows
structure qE (k:Nat) (A:Around):Prop where
 hd:A.handled=none
 dp:A.depth+3 * k+5<recursionLimit
 un:A.units+16 * k+200<cLine
theorem qE.mono {j k:Nat} {A:Around} (r:qE k A) (h:j<=k):qE j A:=⟨r.hd,by have:=r.dp; omega,by have:=r.un; omega⟩
theorem qE.deeper {k:Nat} {A:Around} (r:qE (k+1) A) (env:Env):qE k (A.deeper env) :=
 ⟨r.hd,by have:=r.dp; show A.depth+1+3 * k+5<_; omega,by have:=r.un; show A.units+3+16 * k+200<_; omega⟩
theorem qbw {A:Around} {C:Addr} {us:List Value} {kw:List (Str × Value)}:(A.under (.builtin "type.__call__" ⟨.ref C::us,kw⟩)).depth=A.depth+1:=by
 first | rfl | simp [Around.under,Code.weight,Code.isCreation,Code.isGuard,Code.isCaller,Code.frames,Code.isFrame,guardIds]
theorem qbx {A:Around} {C:Addr} {us:List Value} {kw:List (Str × Value)}:(A.under (.builtin "type.__call__" ⟨.ref C::us,kw⟩)).units=A.units+1:=by
 first | rfl | simp [Around.under,Code.cUnits,Code.frames,Code.isFrame]
theorem qE.make {k:Nat} {A:Around} (r:qE (k+1) A) (C:Addr) (us:List Value) (kw:List (Str × Value)):qE k (A.under (.builtin "type.__call__" ⟨.ref C::us,kw⟩)) :=
 ⟨r.hd,by have:=r.dp; rw [qbw]; omega,by have:=r.un; rw [qbx]; omega⟩
theorem qE.depth {k:Nat} {A:Around} (r:qE k A):A.depth<recursionLimit:=by have:=r.dp; omega
theorem qE.units {k:Nat} {A:Around} (r:qE k A):A.units+64<cLine:=by have:=r.un; omega
def j7:TA:=fun _ H Q=>Q [] H
def jH (ta:TE) (tr:TA):TA:=fun σ H Q=>ta σ H fun x H1=>tr σ H1 fun xs H2=>Q (x::xs) H2
section
variable {X:Cx} {e:Expr} {es:List Expr} {te:TE} {t:TA} {pos:Pos}
theorem qh:PA X [] j7:=fun _ _ _ _ H Q I h=>Calls.spliced_nil ⟨[],H,I,.nil,h⟩
theorem qc (ha:PE X e te) (hr:PA X es t) (hs:starEach (e::es) X.env=(false,eval e X.env)::starEach es X.env:=by rfl):PA X (e::es) (jH te t):=by
 intro pos pins s σ H Q I h
 rw [hs]
 show wpAny _ _ (spliced ((false,eval e X.env)::backTo pos (starEach es X.env))) _ _ s
 refine Calls.spliced_cons (thn (ha pins s σ H _ I h) fun u s1 ⟨x,H1,I1,r1,q1⟩=>?_)
 exact thn (hr pos pins s1 σ H1 _ I1 q1) fun us s2 ⟨xs,H2,I2,r2,q2⟩=>⟨x::xs,H2,I2,.cons r1 r2,q2⟩
def qjN (t:TA):TE:=fun σ H Q=>t σ H fun xs H1=>xs.length<=sizeLine/\∀ p,H1 p=none->Q (.ref p) (upd H1 p (.tup xs))
def qhK (t:TA):TE:=fun σ H Q=>t σ H fun xs H1=>xs.length<=sizeLine/\∀ p,H1 p=none->Q (.ref p) (upd H1 p (.lst xs))
theorem qdO {x1} (h:PA X es t):PE X (.Tuple es x1 pos) (qjN t):=by
 intro pins s σ H Q I hq
 refine wpAny_Tuple_spliced (thn (h pos pins s σ H _ I hq) fun us s1 ⟨xs,H1,I1,r,z,q⟩=>⟨by rw [<- r.length]; exact z,?_⟩)
 have hf:H1 s1.heap.objs.size=none:=I1.hok.fresh (Nat.le_refl _)
 refine ⟨.ref s1.heap.objs.size,upd H1 s1.heap.objs.size (.tup xs),I1.laid (t':=s1.toks) (fun b u e=>Heap.get?_push_of_some _ e) (Nat.le_refl _) ?_,rfl,q _ hf⟩
 exact ⟨z,us,r,⟨_,Heap.get?_push_size _ rfl,rfl,_,rfl⟩⟩
theorem zo (h:PA X es t):PE X (.List es pos) (qhK t):=by
 intro pins s σ H Q I hq
 refine wpAny_List_spliced (thn (h pos pins s σ H _ I hq) fun us s1 ⟨xs,H1,I1,r,z,q⟩=>⟨by rw [<- r.length]; exact z,?_⟩)
 have hf:H1 s1.heap.objs.size=none:=I1.hok.fresh (Nat.le_refl _)
 refine ⟨.ref s1.heap.objs.size,upd H1 s1.heap.objs.size (.lst xs),I1.laid (t':=s1.toks) (fun b u e=>Heap.get?_push_of_some _ e) (Nat.le_refl _) ?_,rfl,q _ hf⟩
 exact ⟨z,us,0,r,Heap.get?_push_size _ rfl⟩
end
abbrev Sp:=List V->Hp->VK->XK->Prop
abbrev CXT:=List Env->Hp->Shared->XK->Value->Shared->Prop
structure Jf (P:Program) (w:World) (K:PySem.W.Frag) (mg:Str->Option Value) (base:Heap) (A:Around) (outer:List Env) (s:Shared) (H:Hp):Prop where
 frames:A.frames=some outer
 mod:Mod K mg base
 bs:∀ b o,base.get? b=some o->s.heap.get? b=some o/\H b=none
 bsz:base.objs.size<=s.heap.objs.size
 funs:s.heap.FunFrames base outer
 frf:∀ b∈frs outer,H b=none
 hok:HOk P w H s.heap
 bare:AllBare s.gens
def CE (outer:List Env) (P:Program) (w:World) (H:Hp) (s:Shared) (Q:VK) (u:Value) (s':Shared):Prop :=
 ∃ v H',s'.os=s.os/\AllBare s'.gens/\Un (frs outer) [] H H' s.heap s'.heap/\HOk P w H' s'.heap/\RelV v u/\Q v H'
def CR (CX:CXT) (outer:List Env) (P:Program) (w:World) (H:Hp) (s:Shared) (Q:VK) (E:XK) (r:Result) (s':Shared):Prop :=
 match r with
 | .ok (.ret u)=>CE outer P w H s Q u s'
 | .ok _=>False
 | .error e=>CX outer H s E e s'
structure qB (P:Program) (w:World) (K:PySem.W.Frag) (mg:Str->Option Value) (base:Heap) (CX:CXT) (k:Nat) (f:Addr) (fd:FuncData) (ps:List Str) (sp:Sp):Prop where
 len:∀ vs H Q E,sp vs H Q E->vs.length=ps.length
 run:∀ (A:Around) (outer:List Env) (s:Shared) (H:Hp) (args:Args) (us:List Value) (vs:List V) (Q:VK) (E:XK),qE k A->Jf P w K mg base A outer s H->BindsTo s fd args (ps.zip us)->qv vs us->sp vs H Q E ->
  codeAny (model P w) A (.call (.ref f) args) (CR CX outer P w H s Q E) s
theorem Jf.make {P:Program} {w:World} {K:PySem.W.Frag} {mg:Str->Option Value} {base:Heap} {A:Around} {outer:List Env} {s:Shared} {H:Hp} (e:Jf P w K mg base A outer s H) (C:Addr) (us:List Value) (kw:List (Str × Value)) :
  Jf P w K mg base (A.under (.builtin "type.__call__" ⟨.ref C::us,kw⟩)) outer s H:=⟨by first | exact e.frames | (simpa [Around.under,Code.envs,Code.isFrame,pushEnvs] using e.frames),e.mod,e.bs,e.bsz,e.funs,e.frf,e.hok,e.bare⟩
section
variable {X:Cx} {pins:List (Addr × Obj)} {σ : St} {H:Hp} {s s':Shared}
theorem Inv.env0 (I:Inv X pins σ H s):Jf X.prog X.w X.K X.mg X.base X.A X.stack s H :=
 ⟨I.ok.frames,I.ok.mod,I.bs,Nat.le_trans I.ok.bsz I.sz,I.stack,I.stkFree,I.hok,I.bare⟩
theorem Inv.after {Q:VK} {u:Value} (I:Inv X pins σ H s) (h:CE X.stack X.prog X.w H s Q u s'):EP X pins σ Q u s':=by
 obtain ⟨v,H',os,bare,un,hok,r,q⟩:=h
 obtain ⟨hh,g,d,t,os'⟩:=s'
 obtain rfl:os'=s.os:=os
 exact ⟨v,H',I.call (h':=hh) (g':=g) (d':=d) (t':=t) (ch:=[]) un hok bare (fun b z=>absurd z (by simp)),r,q⟩
end
def Qk (sp:Sp) (dvs:List V) (E:XK) (t:TA):TE:=fun σ H Q=>t σ H fun vs H1=>sp (vs++dvs) H1 Q E
def qby (C:Addr) (m:Str) (sp:Sp) (dvs:List V) (E:XK) (ta:TE) (t:TA):TE:=fun σ H Q=>ta σ H fun x H1=>∃ a dx fs,x=.ref a/\H1 a=some (.ins C dx fs)/\fs.lookup m=none /\
 t σ H1 fun vs H2=>sp (x::(vs++dvs)) H2 Q E
def qiw (C:Addr) (sp:Sp) (dvs:List V) (E:XK) (t:TA):TE:=fun σ H Q=>t σ H fun vs H1=>∀ x dx,H1 x=none->H1 dx=none->dx≠x ->
 sp (.ref x::(vs++dvs)) (upd (upd H1 dx (.own x)) x (.ins C dx [])) (fun v H2=>v=.non/\Q (.ref x) H2) E
def Binds (K:PySem.W.Frag) (fd:FuncData) (ps:List Str) (ds:List Value):Prop :=
 ∀ (s:Shared) (us:List Value),K.In s.heap->(us++ds).length=ps.length->BindsTo s fd ⟨us,[]⟩ (ps.zip (us++ds))
theorem Binds.all {K:PySem.W.Frag} {fd:FuncData} {ps:List Str} (h:∀ us:List Value,us.length=ps.length->bindArgs fd ⟨us,[]⟩=pure (ps.zip us)):Binds K fd ps []:=fun s us _ hl=>by
 rw [List.append_nil] at hl ⊢
 exact .of_eq (h us hl)
def zT (CX:CXT) (X:Cx) (E:XK):Prop:=∀ (pins:List (Addr × Obj)) (σ : St) (H:Hp) (s:Shared) (e:Value) (s':Shared),Inv X pins σ H s->CX X.stack H s E e s'->X.xe e s'
section
variable {X:Cx} {CX:CXT} {k:Nat} {f C:Addr} {fd:FuncData} {ps:List Str} {sp:Sp} {dvs:List V} {ds:List Value} {E:XK} {x m:Str} {p pos apos:Pos} {e o:Expr} {es:List Expr} {ta:TE} {t:TA}
theorem qbz {pins:List (Addr × Obj)} {σ : St} {H:Hp} {s:Shared} {Q:VK} {us:List Value} {vs:List V} (F:qB X.prog X.w X.K X.mg X.base CX k f fd ps sp) (hr:qE k X.A) (hb:Binds X.K fd ps ds) (hd:qv dvs ds) (hx:zT CX X E)
  (I:Inv X pins σ H s) (r:qv vs us) (h:sp (vs++dvs) H Q E):wpAny (model X.prog X.w) X.A (call (.ref f) us) (EP X pins σ Q) X.xe s:=by
 have r2:qv (vs++dvs) (us++ds):=r.append hd
 have hl:(us++ds).length=ps.length:=by rw [<- r2.length]; exact F.len _ _ _ _ h
 refine wpAny_call (codeAny_mono (F.run X.A X.stack s H ⟨us,[]⟩ (us++ds) (vs++dvs) Q E hr I.env0 (hb s us I.kIn hl) r2 h) fun r s' hq=>?_)
 cases r with
 | error e=>exact hx pins σ H s e s' I hq
 | ok fl=>
  cases fl with
  | ret u=>exact I.after hq
  | next=>exact False.elim hq
  | brk=>exact False.elim hq
  | cont=>exact False.elim hq
theorem qiO (F:qB X.prog X.w X.K X.mg X.base CX k f fd ps sp) (hr:qE k X.A) (hg:Gl X x) (hm:X.mg x=some (.ref f)) (hk:PySem.W.keepIn X.K (.ref f)=true) (hb:Binds X.K fd ps ds) (hd:qv dvs ds) (hx:zT CX X E)
  (ha:PA X (e::es) t) (hdb:(x == ("__debug__" : Str))=false:=by decide) (he:starEach (e::es) X.env=(false,eval e X.env)::starEach es X.env:=by rfl) (hpl:(backTo pos (starEach es X.env)).any (·.1)=false:=by rfl) :
  PE X (.Call (.Name x p) (e::es) [] pos) (Qk sp dvs E t):=by
 intro pins s σ H Q I h
 refine wpAny_Call_Name_kw (jW I hg hm ?_ hdb)
 refine PySem.W.callWith_K (h₀:=X.base) I.ok.mod.kin hk (thn (ha pos pins s σ H _ I h) fun us s1 ⟨vs,H1,I1,r,q⟩=>⟨I1.kIn,?_⟩) he hpl
 exact qbz F hr hb hd hx I1 r q
theorem qiP {pl:Sem Bool} (he:PE X o ta) (c:Cls X.K C) (hm:qfN X.K C m f) (F:qB X.prog X.w X.K X.mg X.base CX k f fd ps sp) (hr:qE k X.A) (hb:Binds X.K fd ps ds) (hd:qv dvs ds) (hx:zT CX X E) (ha:PA X (e::es) t)
  (hst:starEach (e::es) X.env=(false,eval e X.env)::starEach es X.env:=by rfl) (hpl:(backTo pos (starEach es X.env)).any (·.1)=false:=by rfl)
  (ht:eval (.Call (.Attribute o m apos) (e::es) [] pos) X.env=(do
   let ov <- eval o X.env
   standAt apos.atName
   let (f,first) <- holding [ov] (getMethod ov m pl)
   callWith pos f first (backTo pos (starEach (e::es) X.env)) (backToKw pos (keywordEach [] X.env))):=by rfl) :
  PE X (.Call (.Attribute o m apos) (e::es) [] pos) (qby C m sp dvs E ta t):=by
 intro pins s σ H Q I h
 refine PySem.W.methodCall_KW (pl:=pl) (thn (he pins s σ H _ I h) fun u s1 ⟨x,H1,I1,rx,a,dx,fs,ex,ea,l,q⟩=>?_) ht
 subst ex
 obtain rfl:u=Value.ref a:=rx
 refine qbu I1 ea c hm l ?_
 refine PySem.W.callWith_K (first:=[.ref a]) (h₀:=X.base) I.ok.mod.kin hm.kp (thn (ha pos pins s1 σ H1 _ I1 q) fun us s2 ⟨vs,H2,I2,r,q2⟩=>⟨I2.kIn,?_⟩) hst hpl
 exact qbz (us:=.ref a::us) (vs:=.ref a::vs) F hr hb hd hx I2 (.cons rfl r) q2
theorem qhL {pl:Sem Bool} (he:PE X o ta) (c:Cls X.K C) (hm:qfN X.K C m f) (F:qB X.prog X.w X.K X.mg X.base CX k f fd ps sp) (hr:qE k X.A) (hb:Binds X.K fd ps ds) (hd:qv dvs ds) (hx:zT CX X E)
  (ht:eval (.Call (.Attribute o m apos) [] [] pos) X.env=(do
   let ov <- eval o X.env
   standAt apos.atName
   let (f,first) <- holding [ov] (getMethod ov m pl)
   callWith pos f first (backTo pos (starEach [] X.env)) (backToKw pos (keywordEach [] X.env))):=by rfl) :
  PE X (.Call (.Attribute o m apos) [] [] pos) (qby C m sp dvs E ta j7):=by
 intro pins s σ H Q I h
 refine PySem.W.methodCall_KW (pl:=pl) (thn (he pins s σ H _ I h) fun u s1 ⟨x,H1,I1,rx,a,dx,fs,ex,ea,l,q⟩=>?_) ht
 subst ex
 obtain rfl:u=Value.ref a:=rx
 refine qbu I1 ea c hm l ?_
 exact PySem.W.callWith_K0 (first:=[.ref a]) I1.kIn hm.kp (qbz (us:=[.ref a]) (vs:=[.ref a]) F hr hb hd hx I1 (.cons rfl .nil) q)
structure Mk (K:PySem.W.Frag) (C f:Addr):Prop where
 makes:PySem.W.makesIn K C=true
 init:PySem.W.findIn K (.ref C) "__init__" = some (some (.ref f))
 fn:PySem.W.isFn K (.ref f)=true
 kp:PySem.W.keepIn K (.ref C)=true
theorem qhM {pins:List (Addr × Obj)} {σ : St} {H:Hp} {s:Shared} {Q:VK} {us:List Value} {vs:List V} (M:Mk X.K C f) (F:qB X.prog X.w X.K X.mg X.base CX k f fd ps sp) (hr:qE (k+1) X.A) (hb:Binds X.K fd ps ds) (hd:qv dvs ds)
  (hx:zT CX X E) (I:Inv X pins σ H s) (r:qv vs us)
  (h:∀ x dx,H x=none->H dx=none->dx≠x->sp (.ref x::(vs++dvs)) (upd (upd H dx (.own x)) x (.ins C dx [])) (fun v H2=>v=.non/\Q (.ref x) H2) E) :
  wpAny (model X.prog X.w) X.A (call (.ref C) us) (EP X pins σ Q) X.xe s:=by
 have hq:=h (s.heap.objs.size+1) s.heap.objs.size (I.hok.fresh (Nat.le_succ _)) (I.hok.fresh (Nat.le_refl _)) (Nat.ne_of_lt (Nat.lt_succ_self _))
 have I2:=Inv.made (C:=C) I
 have r2:qv (V.ref (s.heap.objs.size+1)::(vs++dvs)) (Value.ref (s.heap.objs.size+1)::(us++ds)):=.cons rfl (r.append hd)
 have hl:(Value.ref (s.heap.objs.size+1)::us++ds).length=ps.length:=by
  have e:=r2.length
  rw [F.len _ _ _ _ hq] at e
  exact e.symm
 refine wpAny_call (qhI (f:=f) I.kIn M.makes M.init (beq_iff_eq.mp M.fn) (codeAny_mono (F.run _ X.stack _ _ ⟨Value.ref (s.heap.objs.size+1)::us,[]⟩ (Value.ref (s.heap.objs.size+1)::(us++ds)) _ _ E (hr.make C us [])
  (I2.env0.make C us []) (hb _ (Value.ref (s.heap.objs.size+1)::us) I2.kIn hl) r2 hq) fun r s' hq'=>?_))
 cases r with
 | error e=>exact hx pins σ _ _ e s' I2 hq'
 | ok fl=>
  cases fl with
  | ret u=>
   obtain ⟨v,H',I3,rv,ev,q3⟩:=I2.after hq'
   subst ev
   exact ⟨rv,⟨V.ref (s.heap.objs.size+1),H',I3,rfl,q3⟩⟩
  | next=>exact False.elim hq'
  | brk=>exact False.elim hq'
  | cont=>exact False.elim hq'
theorem qiQ (M:Mk X.K C f) (F:qB X.prog X.w X.K X.mg X.base CX k f fd ps sp) (hr:qE (k+1) X.A) (hg:Gl X x) (hm:X.mg x=some (.ref C)) (hb:Binds X.K fd ps ds) (hd:qv dvs ds) (hx:zT CX X E)
  (ha:PA X (e::es) t) (hdb:(x == ("__debug__" : Str))=false:=by decide) (he:starEach (e::es) X.env=(false,eval e X.env)::starEach es X.env:=by rfl) (hpl:(backTo pos (starEach es X.env)).any (·.1)=false:=by rfl) :
  PE X (.Call (.Name x p) (e::es) [] pos) (qiw C sp dvs E t):=by
 intro pins s σ H Q I h
 refine wpAny_Call_Name_kw (jW I hg hm ?_ hdb)
 refine PySem.W.callWith_K (h₀:=X.base) I.ok.mod.kin M.kp (thn (ha pos pins s σ H _ I h) fun us s1 ⟨vs,H1,I1,r,q⟩=>⟨I1.kIn,?_⟩) he hpl
 exact qhM M F hr hb hd hx I1 r q
end
section
variable {X:Cx} {CX:CXT} {k:Nat} {f C:Addr} {fd:FuncData} {ps ks:List Str} {sp:Sp} {E:XK} {x m:Str} {p pos apos kpos:Pos} {e o:Expr} {es:List Expr} {kws:List Keyword} {te ta:TE} {t tk:TA} {nm:Option Str}
variable {g:List Value->List Value->List Value} {gV:List V->List V->List V}
end
structure qo (N P:List Str) (sc:Scope):Prop where
 kind:sc.kind=.function
 co:sc.isCoroutine=false
 gen:sc.isGenerator=false
 nd:N.Nodup
 pre:N.take P.length=P
 par:∀ x∈P,sc.names.lookup x=some .local \/ sc.names.lookup x=some .cell
 nofree:∀ y∈sc.names,y.2≠.free
theorem qcK {kindOf:Str->Option NameKind} {x:Str}:∀ {binds:List (Str × Value)} {m:Str->Option Value},(∀ v,(x,v)∉binds)->bindL kindOf binds m x=m x
 | [],_,_=>rfl
 | (n,v)::r,m,h=>by
  unfold bindL
  rw [qcK fun w hw=>h w (List.mem_cons_of_mem _ hw)]
  split
  ·have:x≠n:=by rintro rfl; exact h v List.mem_cons_self
   simp [this]
  ·rfl
theorem qcL {kindOf:Str->Option NameKind} {x:Str}:∀ {binds:List (Str × Value)} {m:Str->Option Value},(∀ v,(x,v)∉binds)->bindC kindOf binds m x=m x
 | [],_,_=>rfl
 | (n,v)::r,m,h=>by
  unfold bindC
  rw [qcL fun w hw=>h w (List.mem_cons_of_mem _ hw)]
  split
  ·rfl
  ·have:x≠n:=by rintro rfl; exact h v List.mem_cons_self
   simp [this]
theorem JW {kindOf:Str->Option NameKind} {x:Str} {v:Value}:∀ {P:List Str} {vs:List Value} {i:Nat} {m:Str->Option Value},P.Nodup->P[i]? = some x->vs[i]? = some v->kindOf x=some .local ->
  bindL kindOf (P.zip vs) m x=some v
 | [],_,_,_,_,h,_,_=>by simp at h
 | _::_,[],_,_,_,_,h,_=>by simp at h
 | p::P,w::vs,0,m,nd,h1,h2,hk=>by
  simp at h1 h2; subst h1; subst h2
  show bindL kindOf ((p,w)::P.zip vs) m p=_
  unfold bindL
  rw [qcK fun v hv=>(List.nodup_cons.mp nd).1 (List.of_mem_zip hv).1,if_pos hk]
  simp
 | p::P,w::vs,i+1,m,nd,h1,h2,hk=>by
  show bindL kindOf ((p,w)::P.zip vs) m x=_
  unfold bindL
  exact JW (i:=i) (List.nodup_cons.mp nd).2 (by simpa using h1) (by simpa using h2) hk
theorem JX {kindOf:Str->Option NameKind} {x:Str} {v:Value}:∀ {P:List Str} {vs:List Value} {i:Nat} {m:Str->Option Value},P.Nodup->P[i]? = some x->vs[i]? = some v->kindOf x≠some .local ->
  bindC kindOf (P.zip vs) m x=some v
 | [],_,_,_,_,h,_,_=>by simp at h
 | _::_,[],_,_,_,_,h,_=>by simp at h
 | p::P,w::vs,0,m,nd,h1,h2,hk=>by
  simp at h1 h2; subst h1; subst h2
  show bindC kindOf ((p,w)::P.zip vs) m p=_
  unfold bindC
  rw [qcL fun v hv=>(List.nodup_cons.mp nd).1 (List.of_mem_zip hv).1,if_neg hk]
  simp
 | p::P,w::vs,i+1,m,nd,h1,h2,hk=>by
  show bindC kindOf ((p,w)::P.zip vs) m x=_
  unfold bindC
  exact JX (i:=i) (List.nodup_cons.mp nd).2 (by simpa using h1) (by simpa using h2) hk
def start (N:List Str) (vs:List V):St:=vs.map some++List.replicate (N.length - vs.length) none
def qF (CX:CXT) (P:Program) (w:World) (K:PySem.W.Frag) (mg:Str->Option Value) (base:Heap) (N:List Str) (qual:Str) (scope:Scope) (f:Addr) (cd:Value) (A:Around) (outer:List Env) (s:Shared) (H:Hp) (E:XK):Cx where
 prog:=P
 w:=w
 K:=K
 mg:=mg
 base:=base
 A:=A.deeper (envOfC qual scope s.heap.objs.size f cd)
 N:=N
 s_0:=s
 H_0:=H
 env:=envOfC qual scope s.heap.objs.size f cd
 outer:=outer
 stack:=envOfC qual scope s.heap.objs.size f cd::outer
 ex:=[]
 calm:=true
 fn:=fun _=>true
 pn:=[]
 xe:=fun e s'=>wpAny (model P w) (A.deeper (envOfC qual scope s.heap.objs.size f cd)) (leaving (envOfC qual scope s.heap.objs.size f cd) e) (fun _ s''=>CX outer H s E e s'') (fun e' s''=>CX outer H s E e' s'') s'
theorem Jg {sc:Scope} {n:Nat} {x:Str} (h:sc.names.lookup x=some .cell):∃ c,(cellsFrom n sc.names []).lookup x=some c:=by
 have q:=PySem.W.cellsFrom_some sc.names n [] (.inl h)
 exact Option.isSome_iff_exists.mp q
theorem qgz {CX:CXT} {P:Program} {w:World} {K:PySem.W.Frag} {mg:Str->Option Value} {base:Heap} {N ps:List Str} {qual:Str} {scope:Scope} {f:Addr} {cd:Value} {A:Around} {outer:List Env} {s s1:Shared} {H:Hp} {E:XK} {us:List Value} {vs:List V}
  (S:qo N ps scope) (hd:A.handled=none) (e0:Jf P w K mg base A outer s H) (hl:vs.length=ps.length) (r:qv vs us)
  (x:InCallC s s.heap.objs.size (bindL (envOfC qual scope s.heap.objs.size f cd).kindOf (ps.zip us) fun _=>none) (cellsFrom (s.heap.objs.size+1) scope.names []) (bindC (envOfC qual scope s.heap.objs.size f cd).kindOf (ps.zip us) fun _=>none) s1) :
  Inv (qF CX P w K mg base N qual scope f cd A outer s H E) [] (start N vs) H s1:=by
 have hpl:ps.length<=N.length:=by have:=congrArg List.length S.pre; rw [List.length_take] at this; omega
 obtain ⟨h1,tk,rfl,hk⟩:=x.done
 have noA:∀ b:Addr,b∉(qF CX P w K mg base N qual scope f cd A outer s H E).ex:=fun b z=>absurd (show b∈([]:List Addr) from z) (by simp)
 refine ⟨⟨e0.mod,S.kind,rfl,rfl,Nat.le_refl _,fun y z c h1 h2=>?_,fun y hy=>?_,fun y c _ h=>?_,fun _=>hd,Around.frames_deeper e0.frames,.inr ⟨rfl,rfl⟩,fun b z=>absurd z (noA b),e0.bs,e0.bsz,fun b _ _=>noA b,fun b z=>absurd z (noA b),e0.funs,e0.frf⟩,
  rfl,e0.bare,Un.kept hk,⟨_,x.toInCall.ns,fun i y v h1 h2 h3=>?_⟩,fun y c h=>⟨_,x.cell y c h⟩,e0.hok.fresh (Nat.le_refl _),fun y c h=>?_,fun p hp=>absurd (show p∈([]:List (Addr × Obj)) from hp) (by simp),e0.hok.kept hk,?_⟩
 ·exact name_of_addr x.apart (PySem.mem_of_lookup h1) (PySem.mem_of_lookup h2)
 ·have hy:scope.names.lookup y=some .cell \/ scope.names.lookup y=some .free:=hy
  rcases hy with hy | hy
  ·exact Jg hy
  ·exact absurd rfl (S.nofree _ (PySem.mem_of_lookup hy))
 ·exact Nat.le_of_lt (x.above y c (PySem.mem_of_lookup h))
 ·have hi:i<vs.length:=by
   unfold start at h2
   by_cases hi:i<vs.length
   ·exact hi
   ·rw [List.getElem?_append_right (by simpa using hi)] at h2
    rw [List.getElem?_replicate] at h2
    split at h2 <;> cases h2
  have ha:vs[i]? = some v:=by
   unfold start at h2
   rw [List.getElem?_append_left (by simpa using hi),List.getElem?_map] at h2
   cases e:vs[i]? with
   | none=>rw [e] at h2; cases h2
   | some a=>rw [e] at h2; cases h2; rfl
  obtain ⟨u,hu,rv⟩:=r.get ha
  have hp:ps[i]? = some y:=by
   rw [<- S.pre,List.getElem?_take_of_lt (by omega)]; exact h1
  have ndP:ps.Nodup:=by rw [<- S.pre]; exact S.nd.sublist (List.take_sublist _ _)
  refine ⟨u,rv,?_⟩
  rcases S.par y (List.mem_of_getElem? hp) with k | k
  ·exact .inl ⟨k,JW ndP hp hu k⟩
  ·obtain ⟨c,e⟩:=Jg (n:=s.heap.objs.size+1) k
   refine .inr ⟨.inl k,c,e,?_⟩
   have q:=x.cell y c e
   rw [JX ndP hp hu (by show scope.names.lookup y≠_; rw [k]; decide)] at q
   exact q
 ·exact e0.hok.fresh (Nat.le_of_lt (x.above y c (PySem.mem_of_lookup h)))
 ·unfold start
  show _=N.length
  rw [List.length_append,List.length_map,List.length_replicate]
  omega
theorem qfO {CX:CXT} {P:Program} {w:World} {K:PySem.W.Frag} {mg:Str->Option Value} {base:Heap} {k:Nat} {f:Addr} {name qual:Str} {params:Arguments} {body:List Stmt} {scope:Scope} {dV kV doc pm cdv ct oc:Value} {an od:Option Addr}
  {osl:Array (Option Value)} {N ps:List Str} {sp:Sp} (lk:K.lookup f=some ⟨oc,od,.func (PySem.W.fnOf name qual params body scope dV kV doc pm an cdv ct),osl⟩) (hcd:PySem.W.codeIn K cdv qual=true) (S:qo N ps scope)
  (len:∀ vs H Q E,sp vs H Q E->vs.length=ps.length)
  (hbody:∀ (A:Around) (outer:List Env) (s:Shared) (H:Hp) (vs:List V) (Q:VK) (E:XK),qE k (A.deeper (envOfC qual scope s.heap.objs.size f cdv))->sp vs H Q E ->
   ∃ t,PSs (qF CX P w K mg base N qual scope f cdv A outer s H E) body t/\t { nx:=fun _ H'=>Q .non H',rt:=Q } (start N vs) H) :
  qB P w K mg base CX (k+1) f (PySem.W.fnOf name qual params body scope dV kV doc pm an cdv ct) ps sp:=by
 refine ⟨len,fun A outer s H args us vs Q E hr e0 hb r hsp=>?_⟩
 have hl:=len _ _ _ _ hsp
 have KX:K.In s.heap:=e0.mod.kin.keeps fun b o e=>(e0.bs b o e).1
 have lim:s.heap.NoLimit:=e0.mod.nolimit.keeps fun b o e=>(e0.bs b o e).1
 have hkind:∀ y∈ps.zip us,scope.names.lookup y.1=some .local \/ (scope.names.lookup y.1=some .cell/\((cellsFrom (s.heap.objs.size+1) scope.names []).lookup y.1).isSome=true):=fun ⟨n,v⟩ hy=>by
  rcases S.par n (List.of_mem_zip hy).1 with q | q
  ·exact .inl q
  ·exact .inr ⟨q,PySem.W.cellsFrom_some _ _ _ (.inl q)⟩
 refine codeAny_call_function hr.depth (KX _ _ lk) rfl S.co S.gen rfl (PySem.W.codeRec_of KX hcd) (hb _ _ _ _ ?_)
 refine wpAny_newFunctionEnv_cells S.kind hkind fun env he s1 x=>?_
 subst he
 refine ⟨lim.keeps x.toInCall.keep,codeAny_func ?_⟩
 obtain ⟨t,ht,hq⟩:=hbody A outer s H vs Q E (hr.deeper _) hsp
 have I:Inv (qF CX P w K mg base N qual scope f cdv A outer s H E) [] (start N vs) H s1:=qgz S hr.hd e0 hl r x
 refine wpAny_mono (ht [] s1 (start N vs) H _ I hq) (fun fl s' hs=>?_) fun e s' hs=>hs
 have fin:∀ {σ':St} {H':Hp} {v:V} {u:Value},Inv (qF CX P w K mg base N qual scope f cdv A outer s H E) [] σ' H' s'->RelV v u->Q v H'->CE outer P w H s Q u s' :=
  fun {σ' H' v u} J rv q=>⟨v,H',J.os,J.bare,J.base,J.hok,rv,q⟩
 cases fl with
 | ret u=>
  obtain ⟨v,σ',H',J,rv,q⟩:=hs
  exact fin J rv q
 | next=>
  obtain ⟨σ',H',J,q⟩:=hs
  exact fin (v:=V.non) (u:=Value.none) J rfl q
 | brk=>
  obtain ⟨_,_,_,q⟩:=hs
  exact False.elim q
 | cont=>
  obtain ⟨_,_,_,q⟩:=hs
  exact False.elim q
end L2
namespace L2
open PySem PySem.Spec PyProof.Rows
section
variable {X:Cx} {x:Str} {p pos:Pos} {e:Expr} {es:List Expr} {t:TA} {id T:String} {r:List V->Hp->VK->Prop}
def tCB (r:List V->Hp->VK->Prop) (t:TA):TE:=fun σ H Q=>t σ H fun vs H1=>r vs H1 Q
theorem zG (hc:qaB X (.builtin id) r) (hg:Gl X x) (hm:X.mg x=none) (hv:bootBuiltins x=some (.builtin id)) (ha:PA X (e::es) t) (hn:x ≠ "__name__":=by decide) (hdb:(x == ("__debug__" : Str))=false:=by decide)
  (he:starEach (e::es) X.env=(false,eval e X.env)::starEach es X.env:=by rfl) (hpl:(backTo pos (starEach es X.env)).any (·.1)=false:=by rfl):PE X (.Call (.Name x p) (e::es) [] pos) (tCB r t):=by
 intro pins s σ H Q I h
 refine wpAny_Call_Name_kw (qdH I hg hm hv ?_ hn hdb)
 exact PyProof.Rows.callWith_builtin1 (thn (ha pos pins s σ H _ I h) fun us s1 ⟨vs,H1,I1,r1,q1⟩=>hc pins s1 σ H1 vs us Q I1 r1 q1) he hpl
theorem qgA (hc:qaB X (.type T) r) (hg:Gl X x) (hm:X.mg x=none) (hv:bootBuiltins x=some (.type T)) (ha:PA X (e::es) t) (hn:x ≠ "__name__":=by decide) (hdb:(x == ("__debug__" : Str))=false:=by decide)
  (he:starEach (e::es) X.env=(false,eval e X.env)::starEach es X.env:=by rfl) (hpl:(backTo pos (starEach es X.env)).any (·.1)=false:=by rfl):PE X (.Call (.Name x p) (e::es) [] pos) (tCB r t):=by
 intro pins s σ H Q I h
 refine wpAny_Call_Name_kw (qdH I hg hm hv ?_ hn hdb)
 exact PyProof.Rows.callWith_type1 (thn (ha pos pins s σ H _ I h) fun us s1 ⟨vs,H1,I1,r1,q1⟩=>hc pins s1 σ H1 vs us Q I1 r1 q1) he hpl
end
end L2
namespace HT
open PySem PyProof.Rows
section
open PySem.SeqAt
open PySem.AutoSeq1 (wpAny_loadPart')
open PySem.MeetsSeq PySem.MeetsSeq2 PySem.MeetsSeq3
end
section
variable {prog:Program} {w:World} {A:Around} {E:Value->Shared->Prop} {s:Shared}
def sIx (n d:Nat):Option Int->Nat
 | none=>d
 | some v=>if v<0 then (v+(n:Int)).toNat else min v.toNat n
theorem qaE (n d k:Nat):sIx n d (some (k:Int))=min k n:=by
 show (if (k:Int)<0 then ((k:Int)+(n:Int)).toNat else min (k:Int).toNat n)=min k n
 rw [if_neg (by omega),Int.toNat_natCast]
theorem qgB (n d:Nat) (hd:d<=n) (o:Option Int):sIx n d o<=n:=by
 cases o with
 | none=>exact hd
 | some v=>
  show (if v<0 then (v+(n:Int)).toNat else min v.toNat n)<=n
  by_cases hv:v<0
  ·rw [if_pos hv]; omega
  ·rw [if_neg hv]; exact Nat.min_le_right _ _
end
end HT
namespace L2
open PySem PySem.Spec PyProof.Rows
abbrev TO:=St->Hp->(Option Int->Hp->Prop)->Prop
def PO (X:Cx) (e:Option Expr) (t:TO):Prop :=
 ∀ (pins:List (Addr × Obj)) (s:Shared) (σ : St) (H:Hp) (Q:Option Int->Hp->Prop),Inv X pins σ H s->t σ H Q ->
  wpAny (model X.prog X.w) X.A (evalPart e X.env) (fun u s'=>∃ o H',Inv X pins σ H' s'/\IsPart u o/\Q o H') X.xe s
def qiR:TO:=fun _ H Q=>Q none H
def qfP (t:TE):TO:=fun σ H Q=>t σ H fun x H1=>∃ i,x=.int i/\Q (some i) H1
section
variable {X:Cx} {e:Expr} {te:TE} {lo hi:Option Expr} {tl th:TO} {pos p2:Pos}
theorem qiS:PO X none qiR:=by
 intro pins s σ H Q I h
 rw [evalPart_none]
 exact wpAny_pure ⟨none,H,I,.none,h⟩
theorem QE (h:PE X e te):PO X (some e) (qfP te):=by
 intro pins s σ H Q I hw
 rw [evalPart_some]
 refine thn (h pins s σ H _ I hw) fun u s1 ⟨x,H1,I1,r1,q1⟩=>?_
 obtain ⟨i,rfl,q⟩:=q1
 obtain ⟨t,rfl⟩:=r1
 exact ⟨some i,H1,I1,.int i t,q⟩
def SlR (X:Cx) (r:V->Option Int->Option Int->Hp->VK->Prop):Prop :=
 ∀ (pins:List (Addr × Obj)) (s:Shared) (σ : St) (H:Hp) (x:V) (v vl vu:Value) (lo hi:Option Int) (sl:Addr) (Q:VK),Inv X pins σ H s->RelV x v->s.heap.IsSliceOf sl vl vu .none->IsPart vl lo->IsPart vu hi->r x lo hi H Q ->
  ∃ T id,typeLookup (.type T) "__getitem__" = pure (some (.builtin id))/\s.TypeIs v T/\wpAny (model X.prog X.w) X.A (getItem v (.ref sl)) (EP X pins σ Q) X.xe s
def tSl (r:V->Option Int->Option Int->Hp->VK->Prop) (te:TE) (tl th:TO):TE:=fun σ H Q=>te σ H fun x H1=>tl σ H1 fun l H2=>th σ H2 fun u H3=>r x l u H3 Q
theorem Jh {r:V->Option Int->Option Int->Hp->VK->Prop} (hr:SlR X r) (he:PE X e te) (hl:PO X lo tl) (hu:PO X hi th):PE X (.Subscript e (.Slice lo hi none p2) pos) (tSl r te tl th):=by
 intro pins s σ H Q I h
 refine Subscript_ (thn (he pins s σ H _ I h) fun v s1 ⟨x,H1,I1,r1,q1⟩=>?_)
 refine wpAny_Slice (thn (hl pins s1 σ H1 _ I1 q1) fun vl s2 ⟨l,H2,I2,pl,q2⟩=>thn (hu pins s2 σ H2 _ I2 q2) fun vu s3 ⟨u,H3,I3,pu,q3⟩=>?_)
 rw [evalPart_none]
 refine wpAny_pure ?_
 have I4:Inv X pins σ H3 { s3 with heap:=s3.heap.push { cls:=.type "slice",data:=.fields #[vl,vu,.none] } }:=I3.kept (t':=s3.toks) fun b ob q=>Heap.get?_push_of_some _ q
 obtain ⟨T,id,hT,ht,hg⟩:=hr pins { s3 with heap:=s3.heap.push { cls:=.type "slice",data:=.fields #[vl,vu,.none] } } σ H3 x v vl vu l u s3.heap.objs.size Q I4 r1 (Heap.IsSliceOf.new ..) pl pu q3
 show wpAny (model X.prog X.w) X.A (subscriptTail e (.Slice lo hi none p2) v (.ref s3.heap.objs.size)) (EP X pins σ Q) X.xe { s3 with heap:=s3.heap.push { cls:=.type "slice",data:=.fields #[vl,vu,.none] } }
 exact tail_any (ops:=[.ref s3.heap.objs.size,v]) ht hT hg (by with_unfolding_all rfl)
def JY (xs:List V) (lo hi:Option Int):List V:=(xs.drop (HT.sIx xs.length 0 lo)).take (HT.sIx xs.length xs.length hi - HT.sIx xs.length 0 lo)
theorem qeT (xs:List V) (lo hi:Option Int):(JY xs lo hi).length<=xs.length:=by
 unfold JY
 rw [List.length_take,List.length_drop]
 omega
end
end L2
namespace L2
open PySem PySem.Spec PyProof.Rows
def ixN (n:Nat) (i:Int):Option Nat:=if 0<=i then (if i<n then some i.toNat else none) else if -(n:Int)<=i then some (i+n).toNat else none
def atI {α : Type} (xs:List α) (i:Int):Option α:=(ixN xs.length i).bind fun j=>xs[j]?
theorem qiT {n:Nat} {i:Int} {j:Nat} (h:ixN n i=some j):seqIndex? i n=some j/\j<n /\ -(n:Int)<=i/\i<n:=by
 unfold ixN at h
 by_cases h0:0<=i
 ·rw [if_pos h0] at h
  by_cases h1:i<n
  ·rw [if_pos h1] at h
   have e:i.toNat=j:=Option.some.inj h
   exact ⟨by rw [seqIndex_of h0 h1,e],by omega,by omega,h1⟩
  ·rw [if_neg h1] at h; cases h
 ·rw [if_neg h0] at h
  by_cases h1:-(n:Int)<=i
  ·rw [if_pos h1] at h
   have e:(i+n).toNat=j:=Option.some.inj h
   exact ⟨by rw [seqIndex_neg (by omega) h1,e],by omega,h1,by omega⟩
  ·rw [if_neg h1] at h; cases h
theorem qiU {α : Type} {xs:List α} {i:Int} {v:α} (h:atI xs i=some v):∃ j,seqIndex? i xs.length=some j/\xs[j]? = some v/\j<xs.length /\ -(xs.length:Int)<=i/\i<xs.length:=by
 unfold atI at h
 cases e:ixN xs.length i with
 | none=>rw [e] at h; cases h
 | some j=>
  rw [e] at h
  obtain ⟨h1,h2,h3,h4⟩:=qiT e
  exact ⟨j,h1,h,h2,h3,h4⟩
theorem QF {α : Type} {xs:List α} {j:Nat} {v:α} (h:xs[j]? = some v):atI xs (j:Int)=some v:=by
 have hj:j<xs.length:=(List.getElem?_eq_some_iff.mp h).1
 have e:ixN xs.length (j:Int)=some j:=by
  unfold ixN
  rw [if_pos (by omega),if_pos (by omega)]; simp
 unfold atI; rw [e]; exact h
theorem qa7 {α : Type} (xs:List α) (v:α):atI (xs++[v]) (-1)=some v:=by
 have hl:(xs++[v]).length=xs.length+1:=by simp
 have e:ixN (xs++[v]).length (-1)=some xs.length:=by
  unfold ixN
  rw [hl,if_neg (by decide),if_pos (by omega)]
  congr 1
  omega
 unfold atI
 rw [e]
 show (xs++[v])[xs.length]? = some v
 simp
def qiV (b:Expr):Prop:=∀ o i,subscripted b false o i=operate [o,i] (getItem o i)
def IxR (X:Cx) (r:R2):Prop :=
 ∀ (value slice:Expr) (pins:List (Addr × Obj)) (s:Shared) (σ : St) (H:Hp) (x y:V) (v u:Value) (Q:VK),Inv X pins σ H s->RelV x v->RelV y u->r x y H Q ->
  subscripted slice false v u=operate [v,u] (getItem v u)->wpAny (model X.prog X.w) X.A (subscriptTail value slice v u) (EP X pins σ Q) X.xe s
def MtR (X:Cx) (id:String) (r:V->List V->Hp->VK->Prop):Prop :=
 ∀ (pins:List (Addr × Obj)) (s:Shared) (σ : St) (H:Hp) (x:V) (xs:List V) (v:Value) (us:List Value) (Q:VK),Inv X pins σ H s->RelV x v->qv xs us->r x xs H Q ->
  wpAny (model X.prog X.w) X.A (call (.builtin id) (v::us)) (EP X pins σ Q) X.xe s
section
variable {X:Cx} {a b:Expr} {ta tb:TE} {pos:Pos}
theorem QI {r:R2} (hr:IxR X r) (ha:PE X a ta) (hb:PE X b tb) (hs:qiV b):PE X (.Subscript a b pos) (tOp r ta tb):=by
 intro pins s σ H Q I h
 exact Subscript_ (qhE ha hb I h fun v u s2 x y H2 I2 rx ry q=>hr a b pins s2 σ H2 x y v u Q I2 rx ry q (hs _ _))
def qkR (K:PySem.W.Frag):R2:=fun x y H Q=>∃ p xs i v,x=.ref p/\y=.int i/\SqL K H p xs/\atI xs i=some v/\Q v H
theorem jK:IxR X (qkR X.K):=by
 intro value slice pins s σ H x y v u Q I rx ry h hs
 obtain ⟨p,xs,i,z,rfl,rfl,hq,he,q⟩:=h
 cases rx
 obtain ⟨t,rfl⟩:=ry
 obtain ⟨its,r,pl,hz⟩:=I.list hq
 obtain ⟨j,h1,h2,h3,h4,h5⟩:=qiU he
 obtain ⟨w,ew,rw'⟩:=r.get h2
 have hl:=r.length
 have hn:=qbs
 have fin:EP X pins σ Q w s:=⟨z,H,I,rw',q⟩
 by_cases h0:0<=i
 ·have hj:i.toNat=j:=by
   rw [seqIndex_of h0 h5] at h1
   exact Option.some.inj h1
  exact item_listR pl.isList h0 (by omega) (by rw [hj]; simpa using ew) fin hs
 ·have hj:(i+(its.toArray.size:Int)).toNat=j:=by
   rw [seqIndex_neg (by omega) h4] at h1
   rw [List.size_toArray,<- hl]
   exact Option.some.inj h1
  exact subscriptTail_builtinR (x:=w) pl.isList.typeIs slot_list_getitem.lookup
   (wpAny_getItem_list_neg (Q:=fun r s'=>r=w/\EP X pins σ Q r s') pl.isList (by omega) (by rw [List.size_toArray] <;> omega) (by omega) (by rw [hj]; simpa using ew) ⟨rfl,fin⟩) hs
theorem qdP (lo hi:Option Int) (n:Nat):(sliceBounds lo hi none n).1=((HT.sIx n 0 lo:Nat):Int)/\(sliceBounds lo hi none n).2.1=((HT.sIx n n hi:Nat):Int)/\(sliceBounds lo hi none n).2.2=1:=by
 refine ⟨?_,?_,rfl⟩
 ·cases lo with
  | none=>simp [sliceBounds,HT.sIx]
  | some i=>
   simp only [sliceBounds,HT.sIx,Option.getD_none,show (1:Int) > 0 by decide,if_true]
   by_cases h:i<0
   ·simp only [h,if_true] <;> omega
   ·simp only [h,if_false] <;> omega
 ·cases hi with
  | none=>simp [sliceBounds,HT.sIx]
  | some i=>
   simp only [sliceBounds,HT.sIx,Option.getD_none,show (1:Int) > 0 by decide,if_true]
   by_cases h:i<0
   ·simp only [h,if_true] <;> omega
   ·simp only [h,if_false] <;> omega
theorem qdj (its:List Value) (lo hi:Option Int):slicePick its.toArray lo hi none=((its.drop (HT.sIx its.length 0 lo)).take (HT.sIx its.length its.length hi - HT.sIx its.length 0 lo)).toArray:=by
 obtain ⟨h1,h2,h3⟩:=qdP lo hi its.toArray.size
 unfold slicePick
 rw [h1,h2,h3]
 simp only [sliceRange_one,pick_run,List.size_toArray] <;> rfl
def qjO (K:PySem.W.Frag):V->Option Int->Option Int->Hp->VK->Prop:=fun x lo hi H Q=>∃ a xs,x=.ref a/\SqL K H a xs/\∀ p,H p=none->Q (.ref p) (upd H p (.lst (JY xs lo hi)))
theorem qb7:SlR X (qjO X.K):=by
 intro pins s σ H x v vl vu lo hi sl Q I rx hs pl pu h
 obtain ⟨a,xs,rfl,hx,q⟩:=h
 cases rx
 obtain ⟨its,r,ht,hz⟩:=I.list hx
 have hlen:=r.length
 refine ⟨"list",_,slot_list_getitem.lookup,ht.isList.typeIs,?_⟩
 refine wpAny_getItem_list_slice ht.isList hs pl pu .none (by simp) ?_ (by rw [List.size_toArray] <;> omega)
 rw [qdj,<- hlen]
 refine ⟨.ref s.heap.objs.size,_,I.laid (t':=s.toks) (o:=.lst (JY xs lo hi)) (fun b ob q=>Heap.get?_push_of_some _ q) (Nat.le_refl _) ?_,rfl,q _ (I.hok.fresh (Nat.le_refl _))⟩
 exact ⟨Nat.le_trans (qeT xs lo hi) hz,_,0,(r.drop (HT.sIx xs.length 0 lo)).take (HT.sIx xs.length xs.length hi - HT.sIx xs.length 0 lo),Heap.get?_push_size _ rfl⟩
def jR:V->Bool
 | .non=>true
 | .bl _=>true
 | .int _=>true
 | .str _=>true
 | _=>false
def eqV:V->V->Bool
 | .non,.non=>true
 | .bl a,.bl b=>a == b
 | .bl a,.int b=>(if a then 1 else 0) == b
 | .int a,.bl b=>a == (if b then 1 else 0)
 | .int a,.int b=>a == b
 | .str a,.str b=>a == b
 | _,_=>false
theorem qjP {A:Around} {s:Shared} {y x:V} {u v:Value} (ry:RelV y u) (rx:RelV x v) (fy:jR y=true) (fx:jR x=true):SeqAt.EqAt A s u v (eqV y x):=by
 cases y with
 | non=>
  cases ry
  cases x with
  | non=>cases rx; exact SeqAt.EqAt.same _
  | bl b=>cases rx; exact SeqAt.EqAt.none_bool b
  | int b=>obtain ⟨t,rfl⟩:=rx; exact SeqAt.EqAt.none_int b t
  | str b=>obtain ⟨t,rfl⟩:=rx; exact SeqAt.EqAt.none_str b t
  | _=>exact absurd (show false=true from fx) Bool.false_ne_true
 | bl a=>
  cases ry
  cases x with
  | non=>cases rx; exact SeqAt.EqAt.bool_none a
  | bl b=>cases rx; exact SeqAt.EqAt.bool_bool a b
  | int b=>obtain ⟨t,rfl⟩:=rx; exact SeqAt.EqAt.bool_int a b t
  | str b=>obtain ⟨t,rfl⟩:=rx; exact SeqAt.EqAt.bool_str a b t
  | _=>exact absurd (show false=true from fx) Bool.false_ne_true
 | int a=>
  obtain ⟨t',rfl⟩:=ry
  cases x with
  | non=>cases rx; exact SeqAt.EqAt.int_none a t'
  | bl b=>cases rx; exact SeqAt.EqAt.int_bool a t' b
  | int b=>obtain ⟨t,rfl⟩:=rx; exact SeqAt.EqAt.int_int a t' b t
  | str b=>obtain ⟨t,rfl⟩:=rx; exact SeqAt.EqAt.int_str a t' b t
  | _=>exact absurd (show false=true from fx) Bool.false_ne_true
 | str a=>
  obtain ⟨t',rfl⟩:=ry
  cases x with
  | non=>cases rx; exact SeqAt.EqAt.str_none a t'
  | bl b=>cases rx; exact SeqAt.EqAt.str_bool a t' b
  | int b=>obtain ⟨t,rfl⟩:=rx; exact SeqAt.EqAt.str_int a t' b t
  | str b=>obtain ⟨t,rfl⟩:=rx; exact SeqAt.EqAt.str_str a t' b t
  | _=>exact absurd (show false=true from fx) Bool.false_ne_true
 | _=>exact absurd (show false=true from fy) Bool.false_ne_true
def eqU (x:V) (u:Value):Bool:=match u with
 | .none=>eqV .non x
 | .bool b=>eqV (.bl b) x
 | .int i _=>eqV (.int i) x
 | .str z _=>eqV (.str z) x
 | _=>false
theorem qgC {x y:V} {u:Value} (r:RelV y u) (f:jR y=true):eqU x u=eqV y x:=by
 cases y with
 | non=>cases r; rfl
 | bl b=>cases r; rfl
 | int i=>obtain ⟨t,rfl⟩:=r; rfl
 | str z=>obtain ⟨t,rfl⟩:=r; rfl
 | _=>exact absurd (show false=true from f) Bool.false_ne_true
theorem ZZ {x:V}:∀ {xs:List V} {us:List Value},qv xs us->xs.all jR=true->us.any (eqU x)=xs.any fun y=>eqV y x
 | _,_,.nil,_=>rfl
 | y::xs,u::us,.cons r t,f=>by
  rw [List.all_cons,Bool.and_eq_true] at f
  rw [List.any_cons,List.any_cons,qgC r f.1,ZZ t f.2]
theorem Zr {A:Around} {s:Shared} {x:V} {v:Value} (rx:RelV x v) (fx:jR x=true):∀ {xs:List V} {us:List Value},qv xs us->xs.all jR=true->∀ u∈us,SeqAt.EqAt A s u v (eqU x u)
 | _,_,.nil,_=>fun u hu=>by cases hu
 | y::xs,u::us,.cons r t,f=>fun u' hu=>by
  rw [List.all_cons,Bool.and_eq_true] at f
  rcases List.mem_cons.mp hu with rfl | hu
  ·rw [qgC r f.1]; exact qjP r rx f.1 fx
  ·exact Zr rx fx t f.2 u' hu
def inV (x:V) (xs:List V):Bool:=xs.any fun y=>eqV y x
def rIn (K:PySem.W.Frag) (neg:Bool):R2:=fun x y H Q=>∃ p xs,y=.ref p/\(SqL K H p xs \/ SqT K H p xs)/\jR x=true/\xs.all jR=true/\Q (.bl (if neg then !inV x xs else inV x xs)) H
theorem JZ:OpR X (compareOp .In) (rIn X.K false):=by
 intro pins s σ H x y v u Q I rx ry h
 obtain ⟨p,xs,rfl,hq,fx,fs,q⟩:=h
 cases ry
 rcases hq with hq | hq
 ·obtain ⟨its,r,pl,hz⟩:=I.list hq
  refine SeqAt.in_listAt (eqU x) pl.isList (fun w hw=>Zr rx fx r fs w (by simpa using hw)) ⟨.bl _,H,I,rfl,?_⟩
  rw [show its.toArray.any (eqU x)=its.any (eqU x) by simp,ZZ r fs]
  exact q
 ·obtain ⟨its,r,pl,hz⟩:=I.tuple hq
  refine SeqAt.in_tupleAt (eqU x) pl (fun w hw=>Zr rx fx r fs w (by simpa using hw)) ⟨.bl _,H,I,rfl,?_⟩
  rw [show its.toArray.any (eqU x)=its.any (eqU x) by simp,ZZ r fs]
  exact q
theorem qdQ:OpR X (compareOp .NotIn) (rIn X.K true):=by
 intro pins s σ H x y v u Q I rx ry h
 obtain ⟨p,xs,rfl,hq,fx,fs,q⟩:=h
 cases ry
 rcases hq with hq | hq
 ·obtain ⟨its,r,pl,hz⟩:=I.list hq
  refine SeqAt.notIn_listAt (eqU x) pl.isList (fun w hw=>Zr rx fx r fs w (by simpa using hw)) ⟨.bl _,H,I,rfl,?_⟩
  rw [show its.toArray.any (eqU x)=its.any (eqU x) by simp,ZZ r fs]
  exact q
 ·obtain ⟨its,r,pl,hz⟩:=I.tuple hq
  refine SeqAt.notIn_tupleAt (eqU x) pl (fun w hw=>Zr rx fx r fs w (by simpa using hw)) ⟨.bl _,H,I,rfl,?_⟩
  rw [show its.toArray.any (eqU x)=its.any (eqU x) by simp,ZZ r fs]
  exact q
theorem zd:qaB X (.builtin "len") (fun xs H Q=>∃ p ys,xs=[.ref p]/\(SqL X.K H p ys \/ SqT X.K H p ys)/\Q (.int ys.length) H):=by
 intro pins s σ H xs us Q I r h
 obtain ⟨p,ys,rfl,hq,q⟩:=h
 obtain ⟨u,rfl,rx⟩:=vals1 r
 cases rx
 have hn:=qbs
 rcases hq with hq | hq
 ·obtain ⟨its,r',pl,hz⟩:=I.list hq
  have hlen:=r'.length
  exact Calls.call_len_list pl.isList (by simp only [List.size_toArray] <;> omega) ⟨.int ys.length,H,I.tok _,⟨s.toks+1,by rw [List.size_toArray,hlen]⟩,q⟩
 ·obtain ⟨its,r',pl,hz⟩:=I.tuple hq
  have hlen:=r'.length
  exact len_tuple pl (by simp only [List.size_toArray] <;> omega) ⟨.int ys.length,H,I.tok _,⟨s.toks+1,by rw [List.size_toArray,hlen]⟩,q⟩
theorem J0:qaB X (.builtin "len") (fun xs H Q=>∃ z,xs=[.str z]/\z.length<=sizeLine/\Q (.int z.length) H):=by
 intro pins s σ H xs us Q I r h
 obtain ⟨z,rfl,hz,q⟩:=h
 obtain ⟨u,rfl,t,rfl⟩:=vals1 r
 have hn:=qbs
 exact len_str (by omega) ⟨.int z.length,H,I.tok _,⟨_,rfl⟩,q⟩
theorem qdk:qaB X (.type "tuple") (fun xs H Q=>∃ p ys,xs=[.ref p]/\((SqL X.K H p ys/\∀ l,H l=none->Q (.ref l) (upd H l (.tup ys))) \/ (SqT X.K H p ys/\Q (.ref p) H))):=by
 intro pins s σ H xs us Q I r h
 obtain ⟨p,ys,rfl,h⟩:=h
 obtain ⟨u,rfl,rx⟩:=vals1 r
 cases rx
 rcases h with ⟨hq,q⟩ | ⟨hq,q⟩
 ·obtain ⟨its,r',pl,hz⟩:=I.list hq
  have hlen:=r'.length
  refine call_tuple_list pl.isList (fun h' kp=>?_) (by simp only [List.size_toArray] <;> omega)
  have I1:Inv X pins σ H { s with heap:=h' }:=I.kept (t':=s.toks) kp
  have I2:Inv X pins σ (upd H h'.objs.size (.tup ys)) { s with heap:=h'.push { cls:=.type "tuple",data:=.seq its.toArray } } :=
   I1.laid (t':=s.toks) (fun b o e=>Heap.get?_push_of_some _ e) (Nat.le_refl _) (show zq X.prog X.w _ _ _ (.tup ys) from ⟨hz,its,r',IsTup.new _ _⟩)
  exact ⟨.ref h'.objs.size,_,I2,rfl,q _ (I1.hok.fresh (Nat.le_refl _))⟩
 ·obtain ⟨its,r',pl,hz⟩:=I.tuple hq
  exact call_tuple_same pl ⟨.ref p,H,I,rfl,q⟩
def tyV (K:PySem.W.Frag) (T:String) (x:V) (H:Hp):Prop:=match x with
 | .str _=>T = "str"
 | .int _=>T = "int"
 | .ref p=>(T = "list" /\ ∃ xs,SqL K H p xs) \/ (T = "tuple" /\ ∃ o,K.lookup p=some o/\o.cls=.type "tuple" /\ o.dict=none) \/
   (T = "dict" /\ ((∃ kvs,H p=some (.dK kvs)) \/ ∃ kvs,H p=some (.dT kvs))) \/ (T = "set" /\ ∃ S n,H p=some (.set S n))
 | _=>False
theorem qgD {pins:List (Addr × Obj)} {σ : St} {H:Hp} {s:Shared} {T:String} {x:V} {v:Value} (I:Inv X pins σ H s) (r:RelV x v) (ty:tyV X.K T x H) :
  s.TypeIs v T/\∀ a,v=.ref a->∃ ob,s.heap.get? a=some ob/\ob.dict=none:=by
 cases x with
 | str z=>
  obtain ⟨t,rfl⟩:=r
  cases (show T = "str" from ty)
  exact ⟨typeIs_str s z t,fun _ e=>nomatch e⟩
 | int i=>
  obtain ⟨t,rfl⟩:=r
  cases (show T = "int" from ty)
  exact ⟨typeIs_int s i t,fun _ e=>nomatch e⟩
 | ref p=>
  cases r
  rcases ty with ⟨rfl,xs,hq⟩ | ⟨rfl,o,hk,hc,hd⟩ | ⟨rfl,hk⟩ | ⟨rfl,S,n,hk⟩
  ·obtain ⟨its,_,pl,_⟩:=I.list hq
   refine ⟨pl.isList.typeIs,fun a e=>?_⟩
   cases e
   obtain ⟨o,n,e,c,hd,_⟩:=pl
   exact ⟨o,e,hd⟩
  ·refine ⟨⟨o,I.kIn p o hk,hc⟩,fun a e=>?_⟩
   cases e
   exact ⟨o,I.kIn _ o hk,hd⟩
  ·have z:∃ o,s.heap.get? p=some o/\o.ExactDict:=by
    rcases hk with ⟨kvs,hk⟩ | ⟨kvs,hk⟩
    ·obtain ⟨_,_,_,_,o,_,_,e,ex,_⟩:=I.hok p _ hk
     exact ⟨o,e,ex⟩
    ·obtain ⟨_,_,_,_,o,_,_,e,ex,_⟩:=I.hok p _ hk
     exact ⟨o,e,ex⟩
   obtain ⟨o,e,ex⟩:=z
   refine ⟨⟨o,e,ex.1⟩,fun a e2=>?_⟩
   cases e2
   exact ⟨o,e,ex.2.1⟩
  ·obtain ⟨o,_,_,_,e,ex,_⟩:=I.hok p _ hk
   refine ⟨⟨o,e,ex.1⟩,fun a e2=>?_⟩
   cases e2
   exact ⟨o,e,ex.2.1⟩
 | _=>exact False.elim ty
def qkS (K:PySem.W.Frag) (T:String) (r:V->List V->Hp->VK->Prop) (to:TE):TE:=fun σ H Q=>to σ H fun x H1=>tyV K T x H1/\r x [] H1 Q
def tBM (K:PySem.W.Frag) (T:String) (r:V->List V->Hp->VK->Prop) (to:TE) (t:TA):TE:=fun σ H Q=>to σ H fun x H1=>tyV K T x H1/\t σ H1 fun xs H2=>r x xs H2 Q
variable {o e:Expr} {es:List Expr} {to:TE} {t:TA} {name:Str} {apos cpos:Pos} {T id:String} {r:V->List V->Hp->VK->Prop}
theorem J1 (pa:PlainAttrs T) (slot:Slot T name id) (hty:typeOf (.builtin id)=pure (.type "method_descriptor")) (hm:MtR X id r) (ho:PE X o to)
  (hbase:attributeBase o name X.env (eval o X.env)=eval o X.env:=by rfl) (hline:(apos.endLine == cpos.line)=true:=by rfl):PE X (.Call (.Attribute o name apos) [] [] cpos) (qkS X.K T r to):=by
 intro pins s σ H Q I h
 refine wpAny_Call_method0_late hbase hline (thn (ho pins s σ H _ I h) fun v s1 ⟨x,H1,I1,r1,ty,q1⟩=>?_)
 obtain ⟨h1,h2⟩:=qgD I1 r1 ty
 exact ⟨T,id,pa,slot,hty,h1,h2,Calls.callWith_builtin rfl (PySem.evalArgs_none (hm pins s1 σ H1 x [] v [] Q I1 r1 .nil q1))⟩
theorem js (pa:PlainAttrs T) (slot:Slot T name id) (hty:typeOf (.builtin id)=pure (.type "method_descriptor")) (hm:MtR X id r) (ho:PE X o to) (ha:PA X (e::es) t)
  (hbase:attributeBase o name X.env (eval o X.env)=eval o X.env:=by rfl)
  (hfew:((backTo cpos (starEach (e::es) X.env)).all (fun x=>!x.1)&&(backToKw cpos (keywordEach [] X.env)).all (fun x=>x.1.isSome)
   && decide ((e::es).length+([]:List Keyword).length+(if ([]:List Keyword).isEmpty then 0 else 1)<30))=true:=by rfl)
  (hline:(apos.endLine == cpos.line)=true:=by rfl) (hs:starEach (e::es) X.env=(false,eval e X.env)::starEach es X.env:=by rfl) (hplain:(backTo cpos (starEach es X.env)).any (·.1)=false:=by rfl) :
  PE X (.Call (.Attribute o name apos) (e::es) [] cpos) (tBM X.K T r to t):=by
 intro pins s σ H Q I h
 refine wpAny_Call_method_late hbase hfew hline rfl (thn (ho pins s σ H _ I h) fun v s1 ⟨x,H1,I1,r1,ty,q1⟩=>?_)
 obtain ⟨h1,h2⟩:=qgD I1 r1 ty
 refine ⟨T,id,pa,slot,hty,h1,h2,?_⟩
 have hA:=ha cpos pins s1 σ H1 _ I1 q1
 rw [hs] at hA ⊢
 refine Calls.callWith_builtin (by show (false||(backTo cpos (starEach es X.env)).any (·.1))=false; rw [hplain] <;> rfl) (Calls.evalArgs_plain ?_)
 exact thn hA fun us s2 ⟨vs,H2,I2,r2,q2⟩=>hm pins s2 σ H2 x vs v us Q I2 r1 r2 q2
end
end L2
namespace L2
open PySem PySem.Spec PyProof.Rows
def MtM (X:Cx) (id:String) (r:V->List V->Hp->VK->Prop):Prop :=
 ∀ (pins:List (Addr × Obj)) (s:Shared) (σ : St) (H:Hp) (x:V) (xs:List V) (v:Value) (us:List Value) (Q:VK),Inv X pins σ H s->RelV x v->qv xs us->r x xs H Q ->
  wpAny (model X.prog X.w) X.A (call (.builtin id) (v::us)) (EP X pins σ Q) X.xe s
theorem qv.one:∀ {x:V} {us:List Value},qv [x] us->∃ u,us=[u]/\RelV x u
 | _,_,.cons r .nil=>⟨_,rfl,r⟩
theorem qv.zero:∀ {us:List Value},qv [] us->us=[]
 | _,.nil=>rfl
theorem qv.dropLast {xs:List V} {us:List Value} (h:qv xs us):qv xs.dropLast us.dropLast:=by
 induction h with
 | nil=>exact .nil
 | cons r t ih=>
  cases t with
  | nil=>exact .nil
  | cons q t'=>exact .cons r ih
theorem qv.reverse {xs:List V} {us:List Value} (h:qv xs us):qv xs.reverse us.reverse:=by
 induction h with
 | nil=>exact .nil
 | cons r t ih=>rw [List.reverse_cons,List.reverse_cons]; exact qv.append ih (.cons r .nil)
theorem qfQ {α : Type} (l:List α):l.eraseIdx (l.length - 1)=l.dropLast:=by
 induction l with
 | nil=>rfl
 | cons a r ih=>
  cases r with
  | nil=>rfl
  | cons b r=>
   have e:(a::b::r).length - 1=((b::r).length - 1)+1:=by
    have h1:(a::b::r).length=r.length+2:=rfl
    have h2:(b::r).length=r.length+1:=rfl
    omega
   rw [e,List.eraseIdx_cons_succ,ih]
   all_goals rfl
section
variable {X:Cx} {pins:List (Addr × Obj)} {σ : St} {H:Hp} {s:Shared} {l b:Addr} {xs ys zs:List V}
theorem Inv.lset {its its':List Value} {n:Nat} {f:Array Value->Array Value} {t':Nat} (I:Inv X pins σ H s) (hH:H l=some (.lst xs))
  (e:s.heap.get? l=some { cls:=.type "list",data:=.seq its.toArray n }) (hf:f its.toArray=its'.toArray) (hv:qv ys its') (hz:ys.length<=sizeLine) :
  Inv X pins σ (upd H l (.lst ys)) { s with heap:=s.heap.update l (Obj.mapSeq f),toks:=t' }:=by
 have q:=PySem.IsL.update e f
 rw [hf] at q
 refine I.write (x:=l) (e:=l) (by rw [hH]; exact trivial) (.inl rfl) (fun b' u hb hu=>(Heap.get?_update_other s.heap (Obj.mapSeq f) (Ne.symm hb)).trans hu) ⟨_,q⟩ ?_
 exact ⟨hz,its',_,hv,q⟩
theorem Inv.lstM (I:Inv X pins σ H s) (hH:H l=some (.lst xs)):xs.length<=sizeLine/\∃ (its:List Value) (n:Nat),qv xs its/\xs.length=its.length/\s.heap.get? l=some { cls:=.type "list",data:=.seq its.toArray n }:=by
 obtain ⟨z,its,n,r,e⟩:=I.hok l _ hH
 exact ⟨z,its,n,r,r.length,e⟩
theorem qhN {n:Nat} (h:n<=sizeLine):Builtin.List.listTooLong n=false:=by
 unfold Builtin.List.listTooLong
 exact decide_eq_false (by omega)
end
section
variable {X:Cx}
def qfo:V->List V->Hp->VK->Prop:=fun x vs H Q=>∃ l xs y,x=.ref l/\vs=[y]/\H l=some (.lst xs)/\xs.length<sizeLine/\Q .non (upd H l (.lst (xs++[y])))
theorem zA:MtM X "list.append" qfo:=by
 intro pins s σ H x vs v us Q I rx rv h
 obtain ⟨l,xs,y,rfl,rfl,hH,hz,q⟩:=h
 cases rx
 obtain ⟨u,rfl,ru⟩:=rv.one
 obtain ⟨z,its,n,r,hl,e⟩:=I.lstM hH
 refine call_meets F.slot_list_append ⟨_,e,rfl⟩ F.entry_list_append (F.args_list_append_2 _ _) (PySem.list_append l its.toArray n u (by rw [List.size_toArray]; omega)) ⟨e,?_⟩
 refine ⟨.non,_,I.lset (its':=its++[u]) hH e (by simp) (r.append (.cons ru .nil)) ?_,rfl,q⟩
 rw [List.length_append,List.length_singleton]
 omega
def qiW:V->List V->Hp->VK->Prop:=fun x vs H Q=>∃ l b xs zs,x=.ref l/\vs=[.ref b]/\H l=some (.lst xs)/\H b=some (.lst zs)/\xs.length+zs.length<=sizeLine/\Q .non (upd H l (.lst (xs++zs)))
theorem ZE:MtM X "list.extend" qiW:=by
 intro pins s σ H x vs v us Q I rx rv h
 obtain ⟨l,b,xs,zs,rfl,rfl,hH,hB,hz,q⟩:=h
 cases rx
 obtain ⟨u,rfl,ru⟩:=rv.one
 cases ru
 obtain ⟨z,its,n,r,hl,e⟩:=I.lstM hH
 obtain ⟨z2,its2,n2,r2,hl2,e2⟩:=I.lstM hB
 have hsz:its.toArray.size+its2.toArray.size<=sizeLine:=by rw [List.size_toArray,List.size_toArray]; omega
 have hlong:¬ (!its.toArray.isEmpty&&Builtin.List.listTooLong (its.toArray.size+its2.toArray.size))=true:=by
  rw [qhN hsz,Bool.and_false]
  exact Bool.false_ne_true
 refine call_meets F.slot_list_extend ⟨_,e,rfl⟩ F.entry_list_extend (F.args_list_extend_2 _ _)
  (AutoSeq1.list_extend_list_list_0 l its.toArray n b its2.toArray n2 hlong (by rw [List.size_toArray]; omega) (by omega)) ⟨e,e2,?_⟩
 refine ⟨.non,_,I.lset (its':=its++its2) hH e (by simp) (r.append r2) ?_,rfl,q⟩
 rw [List.length_append]
 omega
def qkT:V->List V->Hp->VK->Prop:=fun x vs H Q=>∃ l xs y,x=.ref l/\vs=[]/\H l=some (.lst xs)/\xs[xs.length - 1]? = some y/\Q y (upd H l (.lst xs.dropLast))
theorem J4:MtM X "list.pop" qkT:=by
 intro pins s σ H x vs v us Q I rx rv h
 obtain ⟨l,xs,y,rfl,rfl,hH,hy,q⟩:=h
 cases rx
 have hus:=rv.zero
 subst hus
 obtain ⟨z,its,n,r,hl,e⟩:=I.lstM hH
 obtain ⟨u,hu,ru⟩:=r.get hy
 have hy':its.toArray[its.toArray.size - 1]? = some u:=by
  show its.toArray[its.length - 1]? = some u
  rw [<- Array.getElem?_toList,<- hl]
  exact hu
 refine call_meets F.slot_list_pop ⟨_,e,rfl⟩ F.entry_list_pop (F.args_list_pop_1 _) (MeetsSeq.list_pop_last l its.toArray n u hy' (by rw [List.size_toArray]; omega)) ⟨e,?_⟩
 refine ⟨y,_,I.lset (its':=its.dropLast) hH e ?_ r.dropLast ?_,ru,q⟩
 ·show its.toArray.eraseIdxIfInBounds (its.toArray.size - 1)=its.dropLast.toArray
  rw [List.size_toArray,List.eraseIdxIfInBounds_toArray,qfQ]
 ·rw [List.length_dropLast]
  omega
end
section
variable {prog:Program} {w:World} {A:Around} {E:Value->Shared->Prop} {s:Shared}
set_option maxRecDepth 100000 in
end
section
variable {X:Cx}
end
end L2
namespace L2
open PySem PySem.Spec PyProof.Rows
theorem qv.ints:∀ {ns:List Int} {us:List Value},qv (ns.map V.int) us->IntsAre us ns
 | [],us,h=>by
  rw [List.map_nil] at h
  cases h
  exact IntsAre.nil
 | n::ns,us,h=>by
  rw [List.map_cons] at h
  cases h with
  | cons r t=>
   obtain ⟨k,rfl⟩:=r
   exact IntsAre.cons n k (qv.ints t)
theorem qv.ref1 {a:Addr} {us:List Value} (r:qv [V.ref a] us):us=[Value.ref a]:=by
 cases r with
 | cons r t=>
  cases t
  cases r
  rfl
section
variable {prog:Program} {w:World} {A:Around} {E:Value->Shared->Prop} {s:Shared} {l:Addr} {its:List Value} {ns:List Int} {Q:Value->Shared->Prop}
end
section
variable {X:Cx}
end
section
variable {X:Cx}
end
section
variable {X:Cx}
end
section
variable {X:Cx}
end
mutual
inductive Dp (K:PySem.W.Frag) (H:Hp):V->PyData->Prop
 | non:Dp K H .non .none
 | bl (b:Bool):Dp K H (.bl b) (.bool b)
 | int (i:Int):Dp K H (.int i) (.int i)
 | str (x:Str):Dp K H (.str x) (.str x)
 | lst {a:Addr} {xs:List V} {ds:List PyData}:SqL K H a xs->Ji K H xs ds->Dp K H (.ref a) (.list ds)
 | tup {a:Addr} {xs:List V} {ds:List PyData}:SqT K H a xs->Ji K H xs ds->Dp K H (.ref a) (.tuple ds)
inductive Ji (K:PySem.W.Frag) (H:Hp):List V->List PyData->Prop
 | nil:Ji K H [] []
 | cons {v:V} {vs:List V} {d:PyData} {ds:List PyData}:Dp K H v d->Ji K H vs ds->Ji K H (v::vs) (d::ds)
end
section
variable {X:Cx} {pins:List (Addr × Obj)} {σ : St} {H:Hp} {s:Shared}
mutual
theorem Dp.reads (I:Inv X pins σ H s):∀ (d:PyData) (v:V) (u:Value),Dp X.K H v d->RelV v u->∃ as,Reads s.heap u d as
 | .none,_,_,h,r=>by
  cases h
  cases r
  exact ⟨_,Reads.none⟩
 | .bool b,_,_,h,r=>by
  cases h
  cases r
  exact ⟨_,Reads.bool b⟩
 | .int i,_,_,h,r=>by
  cases h
  obtain ⟨t,rfl⟩:=r
  exact ⟨_,Reads.int i t⟩
 | .str x,_,_,h,r=>by
  cases h
  obtain ⟨t,rfl⟩:=r
  exact ⟨_,Reads.str x t⟩
 | .list ds,_,_,h,r=>by
  cases h with
  | lst hs ha=>
   cases r
   obtain ⟨its,rv,⟨o,n,ho,hc,_,hd⟩,_⟩:=I.list hs
   obtain ⟨as,hr⟩:=Dp.readsAll I ds _ its ha rv
   exact ⟨_,Reads.list ho hc hd hr⟩
 | .tuple ds,_,_,h,r=>by
  cases h with
  | tup hs ha=>
   cases r
   obtain ⟨its,rv,⟨o,ho,hc,n,hd⟩,_⟩:=I.tuple hs
   obtain ⟨as,hr⟩:=Dp.readsAll I ds _ its ha rv
   exact ⟨_,Reads.tuple ho hc hd hr⟩
 | .dict _,_,_,h,_=>by cases h
theorem Dp.readsAll (I:Inv X pins σ H s):∀ (ds:List PyData) (vs:List V) (us:List Value),Ji X.K H vs ds->qv vs us->∃ as,ReadsAll s.heap us ds as
 | [],_,_,h,r=>by
  cases h
  cases r
  exact ⟨_,ReadsAll.nil⟩
 | d::ds,_,_,h,r=>by
  cases h with
  | cons h1 h2=>
   cases r with
   | cons r1 r2=>
    obtain ⟨as,q1⟩:=Dp.reads I d _ _ h1 r1
    obtain ⟨bs,q2⟩:=Dp.readsAll I ds _ _ h2 r2
    exact ⟨_,ReadsAll.cons q1 q2⟩
end
end
section
variable {X:Cx}
def qjQ (K:PySem.W.Frag):R2:=fun x y H Q=>∃ d e,Dp K H x d/\Dp K H y e/\SeqAt.shaped d=true/\SeqAt.shaped e=true/\Q (.bl (PyData.eqv d e)) H
theorem qdR (hu:X.A.units+64<cLine):OpR X (compareOp .Eq) (qjQ X.K):=by
 intro pins s σ H x y v u Q I rx ry h
 obtain ⟨d,e,hd,he,sd,se,q⟩:=h
 obtain ⟨as,r1⟩:=Dp.reads I d x v hd rx
 obtain ⟨bs,r2⟩:=Dp.reads I e y u he ry
 exact SeqAt.compareEq_shaped r1 r2 sd se hu ⟨.bl _,H,I,rfl,q⟩
end
end L2
namespace L2
open PySem PySem.Spec PyProof.Rows
abbrev qgE (h:Heap) (c:Addr) (v:Option Value):Prop:=h.IsCell c v
def qkU (scope sc:Scope):Scope :=
 { scope with names:=scope.names.map fun (n,k)=>if (k == .free&&sc.kind == .function&&sc.names.lookup n == some .cell) then (n,.cell) else (n,k) }
def ze (cells:List (Str × Addr)):List (Str × NameKind)->List (Str × Addr)->List (Str × Addr)
 | [],acc=>acc
 | (n,k)::r,acc=>if k == .free then ze cells r ((n,(cells.lookup n).getD 0)::acc) else ze cells r acc
theorem J5 (env:Env) (f:Str × NameKind->List (Str × Addr)->Sem (ForInStep (List (Str × Addr))))
  (hf:∀ n k c,f (n,k) c=if k == .free then (do let a <- cellOf env n; pure (.yield ((n,a)::c))) else pure (.yield c)) :
  ∀ (names:List (Str × NameKind)) (acc:List (Str × Addr)),(∀ y∈names,y.2=.free->∃ c,env.cells.lookup y.1=some c)->forIn names acc f=pure (ze env.cells names acc)
 | [],acc,_=>by rw [List.forIn_nil]; rfl
 | (n,k)::r,acc,h=>by
  rw [List.forIn_cons,hf]
  have ih:=fun acc=>J5 env f hf r acc fun y hy=>h y (List.mem_cons_of_mem _ hy)
  unfold ze
  by_cases hk:(k == NameKind.free)=true
  ·rw [if_pos hk,if_pos hk]
   obtain ⟨c,hc⟩:=h (n,k) List.mem_cons_self (by simpa using hk)
   have e:cellOf env n=pure c:=by unfold cellOf; rw [hc]
   rw [e]
   have e2:(env.cells.lookup n).getD 0=c:=by rw [hc]; rfl
   rw [e2]
   exact ih _
  ·rw [if_neg hk,if_neg hk]
   exact ih _
theorem qfR {scope:Scope} {env:Env} (h:∀ y∈scope.names,y.2=.free->∃ c,env.cells.lookup y.1=some c):closureFor scope env=pure (ze env.cells scope.names []):=by
 simp only [closureFor]
 rw [J5 env _ (fun n k c=>rfl) scope.names [] h]
 rfl
theorem mem_lookup {α : Type}:∀ {l:List (Str × α)} {n:Str} {c:α},(n,c)∈l->∃ c',l.lookup n=some c'
 | (k,v)::r,n,c,h=>by
  rw [List.lookup_cons]
  cases hb:n == k with
  | true=>exact ⟨_,rfl⟩
  | false=>
   rcases List.mem_cons.mp h with e | h
   ·cases e; simp at hb
   ·exact mem_lookup h
theorem QY {cells:List (Str × Addr)}:∀ {names:List (Str × NameKind)} {acc:List (Str × Addr)} {n:Str} {c:Addr},(n,c)∈ze cells names acc->(n,c)∈acc \/ ((n,.free)∈names/\c=(cells.lookup n).getD 0)
 | [],_,_,_,h=>.inl h
 | (m,k)::r,acc,n,c,h=>by
  unfold ze at h
  split at h
  ·rename_i hk
   have hk:k=.free:=by simpa using hk
   rcases QY h with h | ⟨h1,h2⟩
   ·rcases List.mem_cons.mp h with e | h
    ·cases e; exact .inr ⟨hk ▸ List.mem_cons_self,rfl⟩
    ·exact .inl h
   ·exact .inr ⟨List.mem_cons_of_mem _ h1,h2⟩
  ·rcases QY h with h | ⟨h1,h2⟩
   ·exact .inl h
   ·exact .inr ⟨List.mem_cons_of_mem _ h1,h2⟩
theorem ZO {cells:List (Str × Addr)}:∀ {names:List (Str × NameKind)} {acc:List (Str × Addr)} {p:Str × Addr},p∈acc->p∈ze cells names acc
 | [],_,_,h=>h
 | (m,k)::r,acc,p,h=>by
  unfold ze
  split
  ·exact ZO (List.mem_cons_of_mem _ h)
  ·exact ZO h
theorem ZP {cells:List (Str × Addr)}:∀ {names:List (Str × NameKind)} {acc:List (Str × Addr)} {n:Str},(n,.free)∈names->(n,(cells.lookup n).getD 0)∈ze cells names acc
 | (m,k)::r,acc,n,h=>by
  unfold ze
  rcases List.mem_cons.mp h with e | h
  ·cases e
   exact ZO List.mem_cons_self
  ·split
   ·exact ZP h
   ·exact ZP h
theorem Q9:∀ {names:List (Str × NameKind)} {h:Heap} {acc:List (Str × Addr)} {x:Str} {c:Addr},(x,c)∈cellsFrom h.objs.size names acc ->
  (x,c)∈acc \/ ((x,.cell)∈names/\h.objs.size<=c/\qgE (pushCells h names) c none)
 | [],_,_,_,_,h=>.inl h
 | (n,k)::r,h,acc,x,c,hm=>by
  unfold cellsFrom at hm
  unfold pushCells
  split at hm
  ·rename_i hk
   rw [if_pos hk]
   have hk:k=.cell:=by simpa using hk
   rw [<- Heap.size_push h { cls:=.type "cell",data:=.cell none }] at hm
   rcases Q9 hm with hm | ⟨h1,h2,h3⟩
   ·rcases List.mem_cons.mp hm with e | hm
    ·cases e
     exact .inr ⟨hk ▸ List.mem_cons_self,Nat.le_refl _,_,pushCells_keeps r _ _ _ (Heap.get?_push_size _ rfl),rfl⟩
    ·exact .inl hm
   ·rw [Heap.size_push] at h2
    exact .inr ⟨List.mem_cons_of_mem _ h1,Nat.le_of_succ_le h2,h3⟩
  ·rename_i hk
   rw [if_neg hk]
   rcases Q9 hm with hm | ⟨h1,h2,h3⟩
   ·exact .inl hm
   ·exact .inr ⟨List.mem_cons_of_mem _ h1,h2,h3⟩
theorem ZF:∀ {names:List (Str × NameKind)} {n:Nat} {acc:List (Str × Addr)} {p:Str × Addr},p∈acc->p∈cellsFrom n names acc
 | [],_,_,_,h=>h
 | (m,k)::r,n,acc,p,h=>by
  unfold cellsFrom
  split
  ·exact ZF (List.mem_cons_of_mem _ h)
  ·exact ZF h
theorem J6:∀ {names:List (Str × NameKind)} {n:Nat} {acc:List (Str × Addr)} {x:Str},(x,.cell)∈names->∃ c,(x,c)∈cellsFrom n names acc
 | (m,k)::r,n,acc,x,h=>by
  unfold cellsFrom
  rcases List.mem_cons.mp h with e | h
  ·cases e
   exact ⟨n,ZF List.mem_cons_self⟩
  ·split
   ·exact J6 h
   ·exact J6 h
theorem J7:∀ {names:List (Str × NameKind)} {h:Heap} {acc:List (Str × Addr)} {x y:Str} {c:Addr},(∀ p∈acc,p.2<h.objs.size)->(∀ x y c,(x,c)∈acc->(y,c)∈acc->x=y) ->
  (x,c)∈cellsFrom h.objs.size names acc->(y,c)∈cellsFrom h.objs.size names acc->x=y
 | [],_,_,_,_,_,_,hi,h1,h2=>hi _ _ _ h1 h2
 | (n,k)::r,h,acc,x,y,c,hl,hi,h1,h2=>by
  unfold cellsFrom at h1 h2
  split at h1
  ·rename_i hk
   rw [if_pos hk] at h2
   rw [<- Heap.size_push h { cls:=.type "cell",data:=.cell none }] at h1 h2
   refine J7 (h:=h.push _) (fun p hp=>?_) (fun x y c a b=>?_) h1 h2
   ·rw [Heap.size_push]
    rcases List.mem_cons.mp hp with rfl | hp
    ·exact Nat.lt_succ_self _
    ·exact Nat.lt_succ_of_lt (hl p hp)
   ·rcases List.mem_cons.mp a with e | a <;> rcases List.mem_cons.mp b with e' | b
    ·cases e; cases e'; rfl
    ·cases e; exact absurd (hl _ b) (Nat.lt_irrefl _)
    ·cases e'; exact absurd (hl _ a) (Nat.lt_irrefl _)
    ·exact hi _ _ _ a b
  ·rename_i hk
   rw [if_neg hk] at h2
   exact J7 hl hi h1 h2
theorem qeU {M:Model} {A:Around} {E:Value->Shared->Prop} {s:Shared} {scope:Scope} {globals:Addr} {closure:List (Str × Addr)} {qual:Str} {func:Option Addr} {code:Value} {around:Env} {builtins:Addr} {Q:Env->Shared->Prop}
  (h:Q (newEnv scope s.heap.objs.size globals (cellsFrom (s.heap.objs.size+1) scope.names closure) qual func code (some around) builtins)
   { s with heap:=pushCells (s.heap.push { cls:=.type "dict",data:=.dict #[] }) scope.names }) :
  wpAny M A (newFunctionEnv scope globals closure [] qual func code (some around) builtins) Q E s:=by
 simp only [newFunctionEnv,Option.isSome_some,if_true]
 refine wpAny_bind (wpAny_alloc ?_)
 refine wpAny_bind (wpAny_layCells _ (fun n k c=>rfl) scope.names closure _ _ ?_)
 rw [show ({ s with heap:=s.heap.push { cls:=.type "dict",data:=.dict #[] } }:Shared).heap.objs.size=s.heap.objs.size+1 from Heap.size_push ..]
 rw [List.forIn_nil]
 exact wpAny_bind (wpAny_pure (wpAny_pure h))
theorem ZQ {sc:Scope}:∀ {names:List (Str × NameKind)} {x:Str} {k:NameKind},
  (names.map fun (n,k)=>if (k == NameKind.free&&sc.kind == .function&&sc.names.lookup n == some .cell) then (n,NameKind.cell) else (n,k)).lookup x=some k ->
  ∃ k',names.lookup x=some k'/\(k=k' \/ (k'=.free/\k=.cell))
 | [],_,_,h=>by simp at h
 | (n,k₀)::r,x,k,h=>by
  have ih:=@ZQ sc r x k
  have h':List.lookup x ((if (k₀ == NameKind.free&&sc.kind == .function&&sc.names.lookup n == some .cell)=true then (n,NameKind.cell) else (n,k₀))::(r.map _))=some k:=h
  cases hx:x == n with
  | true=>
   simp only [List.lookup_cons,hx]
   by_cases hc:(k₀ == NameKind.free&&sc.kind == .function&&sc.names.lookup n == some .cell)=true
   ·rw [if_pos hc] at h'
    simp only [List.lookup_cons,hx] at h'
    cases h'
    simp only [Bool.and_eq_true,beq_iff_eq] at hc
    exact ⟨k₀,rfl,.inr ⟨hc.1.1,rfl⟩⟩
   ·rw [if_neg hc] at h'
    simp only [List.lookup_cons,hx] at h'
    cases h'
    exact ⟨_,rfl,.inl rfl⟩
  | false=>
   simp only [List.lookup_cons,hx]
   by_cases hc:(k₀ == NameKind.free&&sc.kind == .function&&sc.names.lookup n == some .cell)=true
   ·rw [if_pos hc] at h'
    simp only [List.lookup_cons,hx] at h'
    exact ih h'
   ·rw [if_neg hc] at h'
    simp only [List.lookup_cons,hx] at h'
    exact ih h'
structure qdy (N:List Str) (sc scope:Scope) (own:List (Str × Nat)):Prop where
 kind:scope.kind=.function
 uniq:∀ y∈scope.names,scope.names.lookup y.1=some y.2
 ix:∀ p∈own,N[p.2]? = some p.1
 free:∀ y∈scope.names,y.2=.free->sc.names.lookup y.1=some .cell \/ sc.names.lookup y.1=some .free
 own:∀ y∈scope.names,y.2=.local \/ y.2=.cell->y.1∈own.map (·.1) \/ y.1∉N
def wipe (σ : St):List Nat->St
 | []=>σ
 | v::vs=>(wipe σ vs).set v none
theorem ZR (σ : St):∀ vs:List Nat,(wipe σ vs).length = σ.length
 | []=>rfl
 | v::vs=>by unfold wipe; rw [List.length_set,ZR σ vs]
theorem J8 {σ : St} {i:Nat} {x:V}:∀ {vs:List Nat},(wipe σ vs)[i]? = some (some x) -> σ[i]? = some (some x)/\i∉vs
 | [],h=>⟨h,by simp⟩
 | v::vs,h=>by
  unfold wipe at h
  by_cases hi:v=i
  ·subst hi
   by_cases hv:v<(wipe σ vs).length
   ·rw [List.getElem?_set_self hv] at h; cases h
   ·rw [List.getElem?_eq_none (by simpa using hv)] at h; cases h
  ·rw [List.getElem?_set_ne hi] at h
   obtain ⟨h1,h2⟩:=J8 h
   exact ⟨h1,by simp only [List.mem_cons,not_or]; exact ⟨fun e=>hi e.symm,h2⟩⟩
abbrev Cx.blk (X:Cx) (s:Shared) (H:Hp) (scope:Scope) (cenv:Env) (fp:List Addr):Cx:={ X with s_0:=s,H_0:=H,env:=cenv,outer:=X.stack,ex:=fp,fn:=fun x=>scope.names.lookup x == some .cell,pn:=[],xe:=fun _ _=>False }
section
variable {X:Cx} {pins:List (Addr × Obj)} {σ : St} {H:Hp} {s:Shared}
theorem qeV {scope:Scope} {own:List (Str × Nat)} {fp:List Addr} (I:Inv X pins σ H s) (ok:qdy X.N X.env.scope scope own) (hN:X.N.Nodup) (hfp:∀ b∈fp,ZM X pins H b/\b<s.heap.objs.size) :
  Inv (X.blk s H scope (compEnvC scope (cellsFrom (s.heap.objs.size+1) scope.names (ze X.env.cells scope.names [])) s.heap.objs.size X.env) fp) [] (wipe σ (own.map (·.2))) H { s with heap:=pushCells (s.heap.push { cls:=.type "dict",data:=.dict #[] }) scope.names }:=by
 have hfree:∀ y∈scope.names,y.2=.free->∃ c,X.env.cells.lookup y.1=some c:=fun y hy e=>by
  rcases ok.free y hy e with k | k
  ·exact I.ok.has _ (.inl k)
  ·exact I.ok.has _ (.inr k)
 generalize hcenv:compEnvC scope (cellsFrom (s.heap.objs.size+1) scope.names (ze X.env.cells scope.names [])) s.heap.objs.size X.env=cenv
 have kp:∀ b o,s.heap.get? b=some o->(pushCells (s.heap.push { cls:=.type "dict",data:=.dict #[] }) scope.names).get? b=some o:=fun b o e=>pushCells_keeps _ _ _ _ (Heap.get?_push_of_some _ e)
 have hL:cenv.locals=s.heap.objs.size:=by rw [<- hcenv]; rfl
 have hcl:cenv.cells=cellsFrom (s.heap.objs.size+1) scope.names (ze X.env.cells scope.names []):=by rw [<- hcenv]; rfl
 have hsc:cenv.scope=qkU scope X.env.scope:=by rw [<- hcenv]; rfl
 rw [<- Heap.size_push s.heap { cls:=.type "dict",data:=.dict #[] }] at hcl
 have cm:∀ {y c},(y,c)∈ze X.env.cells scope.names []->X.env.cells.lookup y=some c/\c<s.heap.objs.size:=fun {y c} hm=>by
  rcases QY hm with hm | ⟨h1,rfl⟩
  ·cases hm
  ·obtain ⟨c,hc⟩:=hfree _ h1 rfl
   rw [hc]
   obtain ⟨w,z⟩:=I.cell _ _ hc
   exact ⟨rfl,z.lt⟩
 have mem:∀ {y c},cenv.cells.lookup y=some c->(X.env.cells.lookup y=some c/\c<s.heap.objs.size) \/ (s.heap.objs.size+1<=c/\qgE (pushCells (s.heap.push { cls:=.type "dict",data:=.dict #[] }) scope.names) c none):=fun {y c} e=>by
  rw [hcl] at e
  rcases Q9 (PySem.mem_of_lookup e) with hm | ⟨_,h2,h3⟩
  ·exact .inl (cm hm)
  ·rw [Heap.size_push] at h2; exact .inr ⟨h2,h3⟩
 have look:∀ {y},scope.names.lookup y=some .free->∃ c,cenv.cells.lookup y=some c/\X.env.cells.lookup y=some c:=fun {y} hl=>by
  have hy:(y,NameKind.free)∈scope.names:=PySem.mem_of_lookup hl
  obtain ⟨c',e'⟩:=mem_lookup (ZF (names:=scope.names) (n:=(s.heap.push { cls:=.type "dict",data:=.dict #[] }).objs.size) (ZP (cells:=X.env.cells) (acc:=[]) hy))
  rw [<- hcl] at e'
  refine ⟨c',e',?_⟩
  rw [hcl] at e'
  rcases Q9 (PySem.mem_of_lookup e') with hm | ⟨h1,_,_⟩
  ·exact (cm hm).1
  ·have:=ok.uniq _ h1
   rw [hl] at this; cases this
 have okB:(X.blk s H scope cenv fp).Ok:=by
  refine ⟨I.ok.mod,by show cenv.scope.kind=_; rw [hsc]; exact ok.kind,by show cenv.globals=_; rw [<- hcenv]; exact I.ok.glob,by show cenv.builtins=_; rw [<- hcenv]; exact I.ok.blt,by show s.heap.objs.size<=cenv.locals; rw [hL]; exact Nat.le_refl _,
   fun y z c e1 e2=>?_,fun y hy=>?_,fun y c z e=>?_,I.ok.hd,I.ok.frames,.inl rfl,fun b hb=>⟨?_,fun y c e z=>?_⟩,I.bs,Nat.le_trans I.ok.bsz I.sz,fun b o e hb=>?_,fun b hb z=>?_,I.stack,I.stkFree⟩
  ·have e1:cenv.cells.lookup y=some c:=e1
   have e2:cenv.cells.lookup z=some c:=e2
   rw [hcl] at e1 e2
   refine J7 (fun p hp=>?_) (fun y z c a b=>I.ok.inj y z c (cm a).1 (cm b).1) (PySem.mem_of_lookup e1) (PySem.mem_of_lookup e2)
   rw [Heap.size_push]
   exact Nat.lt_succ_of_lt (cm (y:=p.1) (c:=p.2) hp).2
  ·show ∃ c,cenv.cells.lookup y=some c
   have key:∀ k,cenv.kindOf y=some k->(k=.cell \/ k=.free)->∃ c,cenv.cells.lookup y=some c:=fun k hk hk'=>by
    unfold Env.kindOf at hk
    rw [hsc] at hk
    obtain ⟨k',e,r⟩:=ZQ hk
    have:k'=.cell \/ k'=.free:=by
     rcases r with rfl | ⟨rfl,_⟩
     ·exact hk'
     ·exact .inr rfl
    rcases this with rfl | rfl
    ·obtain ⟨c,hm⟩:=J6 (n:=(s.heap.push { cls:=.type "dict",data:=.dict #[] }).objs.size) (acc:=ze X.env.cells scope.names []) (PySem.mem_of_lookup e)
     obtain ⟨c',e'⟩:=mem_lookup hm
     exact ⟨c',by rw [hcl]; exact e'⟩
    ·obtain ⟨c,h1,_⟩:=look e
     exact ⟨c,h1⟩
   rcases hy with hy | hy
   ·exact key _ hy (.inl rfl)
   ·exact key _ hy (.inr rfl)
  ·have z:(scope.names.lookup y == some NameKind.cell)=true:=z
   have z:scope.names.lookup y=some .cell:=by simpa using z
   have e:cenv.cells.lookup y=some c:=e
   rw [hcl] at e
   rcases Q9 (PySem.mem_of_lookup e) with hm | ⟨_,h2,_⟩
   ·rcases QY hm with hm | ⟨h1,_⟩
    ·cases hm
    ·have q:=ok.uniq _ h1
     rw [z] at q; cases q
   ·rw [Heap.size_push] at h2
    exact Nat.le_of_succ_le h2
  ·show b≠cenv.locals
   rw [hL]; exact Nat.ne_of_lt (hfp b hb).2
  ·have e:cenv.cells.lookup y=some c:=e
   rcases mem e with ⟨h1,_⟩ | ⟨h1,_⟩
   ·exact (hfp b hb).1.2.2.2.2.1 y c h1 z
   ·have h2:s.heap.objs.size+1<=b:=by rw [<- z]; exact h1
    exact absurd (Nat.lt_of_lt_of_le (hfp b hb).2 (Nat.le_of_succ_le h2)) (Nat.lt_irrefl _)
  ·rcases (hfp b hb).1.2.2.2.1 with z | z
   ·exact I.ok.noex b o e z
   ·exact absurd (Nat.lt_of_lt_of_le (Heap.lt_size e) (Nat.le_trans I.ok.bsz z)) (Nat.lt_irrefl _)
  ·rcases List.mem_cons.mp (I.stkSub b z) with z | z
   ·exact (hfp b hb).1.2.1 z
   ·exact (hfp b hb).1.2.2.1 z
 refine ⟨okB,rfl,I.bare,Un.kept kp,⟨fun _=>none,?_,fun i y av e1 e2 e3=>?_⟩,fun y c e=>?_,?_,fun y c e=>?_,fun p hp=>?_,I.hok.kept kp,by rw [ZR]; exact I.len⟩
 ·show Heap.Ns _ cenv.locals _
  rw [hL]
  exact Heap.Ns.keeps (Heap.Ns.new ..) fun b o e=>pushCells_keeps _ _ _ _ e
 ·obtain ⟨e2,hne⟩:=J8 e2
  have hfr:scope.names.lookup y=some .free/\(cenv.kindOf y=some .cell \/ cenv.kindOf y=some .free):=by
   have key:∀ k,cenv.scope.names.lookup y=some k->k=.local \/ k=.cell \/ k=.free->scope.names.lookup y=some .free/\(cenv.kindOf y=some .cell \/ cenv.kindOf y=some .free):=fun k hk hk'=>by
    have hk0:=hk
    rw [hsc] at hk
    obtain ⟨k',e,r⟩:=ZQ hk
    have no:¬ (k'=.local \/ k'=.cell):=fun hh=>by
     rcases ok.own _ (PySem.mem_of_lookup e) hh with e' | e'
     ·obtain ⟨p,hp,hpy⟩:=List.mem_map.mp e'
      have e3:=ok.ix p hp
      have:p.1=y:=hpy
      rw [this] at e3
      exact hne (List.mem_map.mpr ⟨p,hp,qa2 hN e3 e1⟩)
     ·exact e' (List.mem_of_getElem? e1)
    rcases r with rfl | ⟨rfl,rfl⟩
    ·rcases hk' with rfl | rfl | rfl
     ·exact absurd (.inl rfl) no
     ·exact absurd (.inr rfl) no
     ·exact ⟨e,.inr hk0⟩
    ·exact ⟨e,.inl hk0⟩
   have e3:Vis cenv.scope y:=e3
   rcases e3 with e3 | e3 | e3
   ·exact key _ e3 (.inl rfl)
   ·exact key _ e3 (.inr (.inl rfl))
   ·exact key _ e3 (.inr (.inr rfl))
  obtain ⟨m,hn,hl⟩:=I.loc
  have hvis:Vis X.env.scope y:=(ok.free _ (PySem.mem_of_lookup hfr.1) rfl).elim (fun k=>.inr (.inl k)) (fun k=>.inr (.inr k))
  obtain ⟨w,r,q⟩:=hl i y av e1 e2 hvis
  refine ⟨w,r,.inr ⟨hfr.2,?_⟩⟩
  obtain ⟨c,h1,h2⟩:=look hfr.1
  rcases q with ⟨k,_⟩ | ⟨_,c',e',z⟩
  ·have k:X.env.scope.names.lookup y=some .local:=k
   rcases ok.free _ (PySem.mem_of_lookup hfr.1) rfl with k' | k' <;> rw [show X.env.scope.names.lookup y=_ from k'] at k <;> cases k
  ·rw [h2] at e'; cases e'
   exact ⟨c,h1,z.keeps kp⟩
 ·have e:cenv.cells.lookup y=some c:=e
  rcases mem e with ⟨h1,_⟩ | ⟨_,z⟩
  ·obtain ⟨w,z⟩:=I.cell y c h1
   exact ⟨w,z.keeps kp⟩
  ·exact ⟨_,z⟩
 ·show H cenv.locals=none
  rw [hL]; exact I.hok.fresh (Nat.le_refl _)
 ·have e:cenv.cells.lookup y=some c:=e
  rcases mem e with ⟨h1,_⟩ | ⟨h1,_⟩
  ·exact I.freeC y c h1
  ·exact I.hok.fresh (Nat.le_of_succ_le h1)
 ·exact absurd (show p∈([]:List (Addr × Obj))++[] from hp) (by simp)
theorem qjR {E:Value->Shared->Prop} {D:Addr} {xs:List V} {y:V} {v:Value} {Q:Value->Shared->Prop} (I:Inv X pins σ H s) (hD:H D=some (.lst xs)) (hz:xs.length<sizeLine) (r:RelV y v)
  (h:∀ s',Inv X pins σ (upd H D (.lst (xs++[y]))) s'->Q .none s'):wpAny (model X.prog X.w) X.A (call (.builtin "list.append") [.ref D,v]) Q E s:=by
 obtain ⟨hz',its,n,ri,e⟩:=I.hok D _ hD
 have hl:=ri.length
 refine append_at (hsz:=by rw [List.size_toArray]; omega) e fun h' sb ho'=>?_
 refine h { s with heap:=h' } (I.write (t':=s.toks) (by rw [hD]; trivial) (.inl rfl) (fun b u hb q=>(sb.2 b hb).trans q) ⟨_,ho'⟩ ⟨by rw [List.length_append]; exact hz,its++[v],n+1,ri.append (.cons r .nil),?_⟩)
 rw [ho']
 simp
def PTs (X:Cx) (ifs:List Expr) (t:TT):Prop :=
 ∀ (pins:List (Addr × Obj)) (s:Shared) (σ : St) (H:Hp) (Q:Bool->Hp->Prop),Inv X pins σ H s->t σ H Q ->
  wpAny (model X.prog X.w) X.A (forIn ifs true fun c r=>if r=true then do let ok <- isTrue c X.env (eval c X.env); pure (ForInStep.yield ok) else pure (ForInStep.yield r)) (TP X pins σ Q) X.xe s
def qjS:TT:=fun _ H Q=>Q true H
theorem qfp:PTs X [] qjS:=fun _ _ _ H _ I h=>wpAny_tests_nil ⟨H,I,h⟩
end
theorem qb8 {α : Type} {t:Sem α} {Q Q':α -> Shared->Prop} {M:Model} {A:Around} {E:Value->Shared->Prop} {s:Shared} (h:wpAny M A t Q (fun _ _=>False) s) (hQ:∀ a s,Q a s->Q' a s):wpAny M A t Q' E s:=wpAny_mono h hQ fun _ _ z=>False.elim z
theorem qdS {prog:Program} {w:World} {A:Around} {R:Result->Shared->Prop} {s:Shared} {elt target iter:Expr} {ifs:List Expr} {scope:Scope} {pos:Pos} {it acc:Value} {env:Env} (I:Nat->Shared->Prop)
  (turn:∀ n s,I n s->wpAny (model prog w) A (pyNext it) (fun r s₁=>match r with
   | none=>R (.ok .next) s₁
   | some v=>wpAny (model prog w) A (letOwnedTupleGo target it v) (fun _ s₁'=>wpAny (model prog w) A (assign target env v) (fun _ s₂=>
     wpAny (model prog w) A (forIn ifs true fun c r=>if r=true then do let ok <- isTrue c env (eval c env); pure (ForInStep.yield ok) else pure (ForInStep.yield r)) (fun ok s₃=>
      if ok=true then wpAny (model prog w) A (eval elt env) (fun x s₄=>
       wpAny (model prog w) A (call (.builtin "list.append") [acc,x]) (fun _ s₅=>∃ m,m<n/\I m s₅) (notedBy (model prog w) A env fun e s'=>R (.error e) s') s₄) (notedBy (model prog w) A env fun e s'=>R (.error e) s') s₃
      else ∃ m,m<n/\I m s₃) (notedBy (model prog w) A env fun e s'=>R (.error e) s') s₂) (notedBy (model prog w) A env fun e s'=>R (.error e) s') s₁') (notedBy (model prog w) A env fun e s'=>R (.error e) s') s₁) (notedBy (model prog w) A env fun e s'=>R (.error e) s') s)
  (n:Nat) (h:I n s) :
  codeAny (model prog w) A (.compLoop (.ListComp elt [⟨target,iter,ifs,0⟩] scope pos) 0 it acc env) R s:=by
 refine codeAny_loop rfl I (fun n s hI=>?_) n h
 show wpAny _ A ((compTurn (.ListComp elt [⟨target,iter,ifs,0⟩] scope pos) 0 it acc env).onRaise (fun x=>do noteFrame x env; theTreesLotGoes x)) _ _ s
 refine wpAny_noted ?_
 rw [compTurn_list]
 refine wpAny_bind (wpAny_standAt (wpAny_bind (wpAny_mono (turn n s hI) (fun r s₁ h₁=>?_) fun _ _ h'=>h')))
 cases r with
 | none=>exact wpAny_pure h₁
 | some v=>
  refine wpAny_bind (wpAny_mono h₁ (fun _ s₁' h₁'=>?_) fun _ _ h'=>h')
  refine wpAny_bind (wpAny_mono h₁' (fun _ s₂ h₂=>wpAny_bind (wpAny_mono h₂ (fun ok s₃ h₃=>?_) fun _ _ h'=>h')) fun _ _ h'=>h')
  cases ok with
  | false=>exact wpAny_pure ⟨rfl,h₃⟩
  | true=>
   exact wpAny_bind (wpAny_bind (wpAny_mono h₃ (fun x s₄ h₄=>wpAny_bind (wpAny_mono h₄ (fun _ s₅ h₅=>wpAny_pure (wpAny_pure ⟨rfl,h₅⟩)) fun _ _ h'=>h')) fun _ _ h'=>h'))
section
variable {X:Cx}
def tLc (wi:TI) (g:TG) (tt:TT) (te:TE) (vs:List Nat):TE:=fun σ H Q=>wi σ H fun J H1=>∀ D,H1 D=none->∃ W:Nat->Nat->Hp->Prop,(∃ m,W 0 m (upd H1 D (.lst [])))/\∀ i m H,W i m H ->
 (J.stop i H/\Q (.ref D) H) \/ (J.go i H/\∃ Nx:Hp->Prop,(∀ H',Nx H'->∃ m',m'<m/\W (i+1) m' H')/\∀ x H',J.yld i H x H'->g x (wipe σ vs) H' fun σ2 H2=>wipe σ2 vs=wipe σ vs/\tt σ2 H2 fun b H3=>
  if b=true then te σ2 H3 fun y H4=>∃ acc,H4 D=some (.lst acc)/\acc.length<sizeLine/\Nx (upd H4 D (.lst (acc++[y]))) else Nx H3)
theorem qiX {pins:List (Addr × Obj)} {s:Shared} {σ : St} {H:Hp} {Q:VK} {elt tg iter:Expr} {ifs:List Expr} {scope:Scope} {own:List (Str × Nat)} {pos pos':Pos} {wi:TI} {g:TG} {tt:TT} {te:TE} {use:Option (Value->Sem Unit)} {Qf:Value->Shared->Prop}
  (hc:X.calm=true) (hN:X.N.Nodup) (I:Inv X pins σ H s) (hi:PI X tg iter wi) (ok:qdy X.N X.env.scope scope own)
  (hg:∀ (s:Shared) (H:Hp) (C:Addr) (cl:List (Str × Addr)) (fp:List Addr),PG (X.blk s H scope (compEnvC scope cl C X.env) fp) tg g) (ht:∀ (s:Shared) (H:Hp) (C:Addr) (cl:List (Str × Addr)) (fp:List Addr),PTs (X.blk s H scope (compEnvC scope cl C X.env) fp) ifs tt)
  (he:∀ (s:Shared) (H:Hp) (C:Addr) (cl:List (Str × Addr)) (fp:List Addr),PE (X.blk s H scope (compEnvC scope cl C X.env) fp) elt te) (hs:∀ x,foldedSetIterable iter X.env x=pure x)
  (h:tLc wi g tt te (own.map (·.2)) σ H Q)
  (hRR:∀ D C s' m H',Inv X pins σ H' s'->Q (.ref D) H'->s'.heap.Ns C m->ZM X pins H' C->compPost (model X.prog X.w) X.A X.xe use Qf (.ref D) C (.ok .next) s') :
  wpAny (model X.prog X.w) X.A (comprehension (.ListComp elt [⟨tg,iter,ifs,0⟩] scope pos) scope X.env pos' (newList []) false (eval iter X.env) use) Qf X.xe s:=by
 have hfree:∀ y∈scope.names,y.2=.free->∃ c,X.env.cells.lookup y.1=some c:=fun y hy e=>by
  rcases ok.free y hy e with k | k
  ·exact I.ok.has _ (.inl k)
  ·exact I.ok.has _ (.inr k)
 refine wpAny_comprehension_free (use:=use) rfl hs (qfR hfree) ok.kind (fun y hy e=>by rw [ok.uniq y hy,e])
  (thn (hi pins s σ H _ I h) fun xv s1 hx=>thn hx fun itv s2 h2=>?_)
 obtain ⟨it,fp,tn,J,H2,e,I2,T,st2,f2,q⟩:=h2
 subst e
 refine wpAny_newObj_type (qeU ?_) (by show 0<=sizeLine; decide)
 generalize hD:s2.heap.objs.size=D
 have hDn:H2 D=none:=I2.hok.fresh (Nat.le_of_eq hD)
 obtain ⟨W,⟨m0,w0⟩,turn⟩:=q D hDn
 generalize hs3:({ s2 with heap:=s2.heap.push { cls:=.type "list",data:=.seq ([]:List Value).toArray } }:Shared)=s3
 have I3:Inv X pins σ (upd H2 D (.lst [])) s3:=by
  rw [<- hs3]
  refine I2.laid (t':=s2.toks) (fun b o e=>Heap.get?_push_of_some _ e) (Nat.le_of_eq hD) ⟨Nat.zero_le _,[],0,.nil,?_⟩
  rw [<- hD]
  exact Heap.get?_push_size _ rfl
 have h3:s3.heap=s2.heap.push { cls:=.type "list",data:=.seq ([]:List Value).toArray }:=by rw [<- hs3]
 have sz:∀ b∈fp,b<s2.heap.objs.size:=fun b hb=>by
  obtain ⟨o,e,_⟩:=T.obj _ _ st2 b hb
  exact Heap.lt_size e
 have f3:∀ b∈fp,ZM X pins (upd H2 D (.lst [])) b/\b<s3.heap.objs.size:=fun b hb=>by
  have hlt:=sz b hb
  refine ⟨⟨?_,(f2 b hb).2⟩,by rw [h3,Heap.size_push]; exact Nat.lt_succ_of_lt hlt⟩
  rw [qa (by rw [<- hD]; exact Nat.ne_of_lt hlt)]
  exact (f2 b hb).1
 have st3:tn 0 s3.heap:=T.keep _ _ _ st2 fun b _ o e=>by rw [h3]; exact Heap.get?_push_of_some _ e
 have I4:=qeV I3 ok hN f3
 have pg:=hg s3 (upd H2 D (.lst [])) s3.heap.objs.size (cellsFrom (s3.heap.objs.size+1) scope.names (ze X.env.cells scope.names [])) fp
 have pt:=ht s3 (upd H2 D (.lst [])) s3.heap.objs.size (cellsFrom (s3.heap.objs.size+1) scope.names (ze X.env.cells scope.names [])) fp
 have pe:=he s3 (upd H2 D (.lst [])) s3.heap.objs.size (cellsFrom (s3.heap.objs.size+1) scope.names (ze X.env.cells scope.names [])) fp
 show codeAny _ _ (.compStart (.ListComp elt [⟨tg,iter,ifs,0⟩] scope pos) 0 (.ref it) (.ref D) (compEnvC scope (cellsFrom (s3.heap.objs.size+1) scope.names (ze X.env.cells scope.names [])) s3.heap.objs.size X.env)) (compPost (model X.prog X.w) X.A X.xe use Qf (.ref D) s3.heap.objs.size) { s3 with heap:=pushCells (s3.heap.push { cls:=.type "dict",data:=.dict #[] }) scope.names }
 have nfp:∀ b∈fp,(upd H2 D (.lst [])) b=none:=fun b hb=>(f3 b hb).1.1
 generalize hce:compEnvC scope (cellsFrom (s3.heap.objs.size+1) scope.names (ze X.env.cells scope.names [])) s3.heap.objs.size X.env=ce at I4 pg pt pe ⊢
 have cL:ce.locals=s3.heap.objs.size:=by subst hce; rfl
 generalize hH3:upd H2 D (.lst [])=H3 at I3 I4 pg pt pe w0 nfp f3
 generalize hs4:({ s3 with heap:=pushCells (s3.heap.push { cls:=.type "dict",data:=.dict #[] }) scope.names }:Shared)=s4 at I4 ⊢
 have st4:tn 0 s4.heap:=T.keep _ _ _ st3 fun b _ o e=>by rw [<- hs4]; exact pushCells_keeps _ _ _ _ (Heap.get?_push_of_some _ e)
 have stat:∀ {σ':St} {H':Hp} {s':Shared},Inv (X.blk s3 H3 scope ce fp) [] σ' H' s'->(∀ b∈fp,H' b=none)->∀ b∈fp,ZM (X.blk s3 H3 scope ce fp) [] H' b:=fun {σ' H' s'} I' hn b hb=>
  ⟨hn b hb,(I'.ok.exf b hb).1,I'.ok.exfs b hb,.inl hb,fun x c e=>(I'.ok.exf b hb).2 x c e,fun p hp=>absurd (show p∈([]:List (Addr × Obj))++[] from hp) (by simp)⟩
 have loop:codeAny (model X.prog X.w) X.A (.compLoop (.ListComp elt [⟨tg,iter,ifs,0⟩] scope pos) 0 (.ref it) (.ref D) ce) (compPost (model X.prog X.w) X.A X.xe use Qf (.ref D) s3.heap.objs.size) s4:=by
  refine qdS (fun n s'=>∃ i H',Inv (X.blk s3 H3 scope ce fp) [] (wipe σ (own.map (·.2))) H' s'/\tn i s'.heap/\(∀ b∈fp,H' b=none)/\W i n H') ?_ m0 ⟨0,H3,I4,st4,nfp,w0⟩
  rintro n s5 ⟨i,H5,I5,st5,n5,w5⟩
  rcases turn i n H5 w5 with ⟨stop,qq⟩ | ⟨go,Nx,hNx,step⟩
  ·have td:=T.done (X.blk s3 H3 scope ce fp) rfl rfl rfl hc i [] s5 _ H5 (fun _ _=>False) I5 (stat I5 n5) st5 stop
   refine qb8 td fun r s6 ⟨hr,I6⟩=>?_
   subst hr
   have I7:Inv X pins σ H5 s6:=I3.call' (ch:=fp) I6.os I6.base I6.hok I6.bare fun b hb=>⟨(f3 b hb).1.2.2.2.1,(f3 b hb).1.2.1,(f3 b hb).1.2.2.2.2.1,(f3 b hb).1.2.2.2.2.2⟩
   have nC:H5 s3.heap.objs.size=none:=by
    have z:H5 ce.locals=none:=I6.free
    rw [cL] at z
    exact z
   obtain ⟨m,hn,_⟩:=I6.loc
   have hn:s6.heap.Ns ce.locals m:=hn
   rw [cL] at hn
   exact hRR D s3.heap.objs.size s6 m H5 I7 qq hn (I3.fpOk (Nat.le_refl _) nC)
  ·have ti:=T.item (X.blk s3 H3 scope ce fp) rfl rfl rfl hc i [] s5 _ H5 (fun _ _=>False) I5 (stat I5 n5) st5 go
   refine qb8 ti fun r s6 ⟨u,hr,h6⟩=>?_
   subst hr
   refine qb8 h6 fun _ s7 ⟨x,H7,I7,r7,y7,st7,n7⟩=>?_
   have I7':=I7.pinned (stat I7 n7) (T.obj _ _ st7)
   refine qb8 (pg _ s7 _ H7 x u _ I7' r7 (step x H7 y7)) fun _ s8 ⟨σ8,H8,I8,hw8,q8⟩=>?_
   refine qb8 (pt _ s8 σ8 H8 _ I8 q8) fun b s9 ⟨H9,I9,q9⟩=>?_
   have fin:∀ {s':Shared} {H':Hp},Inv (X.blk s3 H3 scope ce fp) ([]++JT fp s7.heap) σ8 H' s'->Nx H'->∃ m,m<n/\∃ i H',Inv (X.blk s3 H3 scope ce fp) [] (wipe σ (own.map (·.2))) H' s'/\tn i s'.heap/\(∀ b∈fp,H' b=none)/\W i m H':=fun {s' H'} I' nx=>by
    obtain ⟨m',hm,w'⟩:=hNx H' nx
    have pin':∀ b∈fp,∀ o,s7.heap.get? b=some o->s'.heap.get? b=some o/\H' b=none:=fun b hb o e=>
     let z:=I'.pin (b,o) (List.mem_append_right _ (List.mem_append_right _ (Je hb e)))
     ⟨z.1,z.2.1⟩
    have hl:(wipe σ (own.map (·.2))).length = σ8.length:=by rw [<- hw8,ZR]
    refine ⟨m',hm,i+1,H',(I'.unpinned (pins:=[])).weak hl (fun j v e=>?_),T.keep _ _ _ st7 fun b hb o e=>(pin' b hb o e).1,fun b hb=>?_,w'⟩
    ·rw [<- hw8] at e
     exact (J8 e).1
    ·obtain ⟨o,e,_⟩:=T.obj _ _ st7 b hb
     exact (pin' b hb o e).2
   cases b with
   | false=>
    simp only [Bool.false_eq_true,if_false] at q9 ⊢
    exact fin I9 q9
   | true=>
    simp only [if_true] at q9 ⊢
    refine qb8 (pe _ s9 σ8 H9 _ I9 q9) fun z s10 ⟨yv,H10,I10,r10,acc,hD10,hz10,nx⟩=>?_
    exact qjR (X:=X.blk s3 H3 scope ce fp) I10 hD10 hz10 r10 fun s11 I11=>fin I11 nx
 exact codeAny_compStart_list loop (T.self X.A 0 _ _ _ st4 loop)
theorem qix {elt tg iter:Expr} {ifs:List Expr} {scope:Scope} {own:List (Str × Nat)} {pos:Pos} {wi:TI} {g:TG} {tt:TT} {te:TE} (hc:X.calm=true) (hN:X.N.Nodup) (hi:PI X tg iter wi) (ok:qdy X.N X.env.scope scope own)
  (hg:∀ (s:Shared) (H:Hp) (C:Addr) (cl:List (Str × Addr)) (fp:List Addr),PG (X.blk s H scope (compEnvC scope cl C X.env) fp) tg g) (ht:∀ (s:Shared) (H:Hp) (C:Addr) (cl:List (Str × Addr)) (fp:List Addr),PTs (X.blk s H scope (compEnvC scope cl C X.env) fp) ifs tt)
  (he:∀ (s:Shared) (H:Hp) (C:Addr) (cl:List (Str × Addr)) (fp:List Addr),PE (X.blk s H scope (compEnvC scope cl C X.env) fp) elt te) (hs:∀ x,foldedSetIterable iter X.env x=pure x:=by intro _; rfl) :
  PE X (.ListComp elt [⟨tg,iter,ifs,0⟩] scope pos) (tLc wi g tt te (own.map (·.2))):=by
 intro pins s σ H Q I h
 rw [eval_ListComp]
 refine qiX hc hN I hi ok hg ht he hs h fun D C s' m H' I' q hn f=>⟨m,hn,fun h'' sb=>?_⟩
 obtain ⟨f0,f1,f2,f3,f4,f5⟩:=f
 exact ⟨.ref D,H',I'.turned (t':=s'.toks) (fun b o hb e=>(sb.2 b hb).trans e) f0 f1 f3 f4 f5,rfl,q⟩
end
theorem qiY {K:PySem.W.Frag} {a:Addr} {xs:List V} {g:TG} {tt:TT} {te:TE} {vs:List Nat} {σ : St} {H1:Hp} {D:Addr} {Qd:Hp->Prop} (Pv:Nat->Hp->Prop) (h0:Pv 0 (upd H1 D (.lst []))) (hl:∀ i H,i<=xs.length->Pv i H->SqL K H a xs)
  (hs:∀ i x H,xs[i]? = some x->Pv i H->g x (wipe σ vs) H fun σ2 H2=>wipe σ2 vs=wipe σ vs/\tt σ2 H2 fun b H3=>
   if b=true then te σ2 H3 fun y H4=>∃ acc,H4 D=some (.lst acc)/\acc.length<sizeLine/\Pv (i+1) (upd H4 D (.lst (acc++[y]))) else Pv (i+1) H3) (hd:∀ H,Pv xs.length H->Qd H) :
  ∃ W:Nat->Nat->Hp->Prop,(∃ m,W 0 m (upd H1 D (.lst [])))/\∀ i m H,W i m H ->
   ((Itl K a).stop i H/\Qd H) \/ ((Itl K a).go i H/\∃ Nx:Hp->Prop,(∀ H',Nx H'->∃ m',m'<m/\W (i+1) m' H')/\∀ x H',(Itl K a).yld i H x H'->g x (wipe σ vs) H' fun σ2 H2=>wipe σ2 vs=wipe σ vs/\tt σ2 H2 fun b H3=>
    if b=true then te σ2 H3 fun y H4=>∃ acc,H4 D=some (.lst acc)/\acc.length<sizeLine/\Nx (upd H4 D (.lst (acc++[y]))) else Nx H3):=by
 refine ⟨fun i m H=>m=xs.length - i/\i<=xs.length/\Pv i H,⟨xs.length,by simp,Nat.zero_le _,h0⟩,?_⟩
 rintro i m H ⟨rfl,hi,p⟩
 have q:=hl i H hi p
 by_cases hlt:i<xs.length
 ·refine .inr ⟨⟨xs,xs[i],q,by simp [hlt]⟩,Pv (i+1),fun H' p'=>⟨xs.length - (i+1),by omega,rfl,hlt,p'⟩,fun x H' y=>?_⟩
  obtain ⟨e,y⟩:=y
  subst e
  exact hs i x _ (y xs q) p
 ·have e:i=xs.length:=by omega
  subst e
  exact .inl ⟨⟨xs,q,Nat.le_refl _⟩,hd H p⟩
def qjT (N:List Str) (sc scope:Scope) (own:List (Str × Nat)):Bool :=
 (match scope.kind with | .function=>true | _=>false)&&(scope.names.all fun y=>decide (scope.names.lookup y.1=some y.2))&&(own.all fun p=>decide (N[p.2]? = some p.1)) &&
  (scope.names.all fun y=>match y.2 with
   | .free=>(match sc.names.lookup y.1 with | some .cell=>true | some .free=>true | _=>false)
   | .local=>decide (y.1∈own.map (·.1))||decide (y.1∉N)
   | .cell=>decide (y.1∈own.map (·.1))||decide (y.1∉N)
   | _=>true)
theorem qdT {N:List Str} {sc scope:Scope} {own:List (Str × Nat)} (h:qjT N sc scope own=true):qdy N sc scope own:=by
 unfold qjT at h
 simp only [Bool.and_eq_true,List.all_eq_true,decide_eq_true_eq] at h
 obtain ⟨⟨⟨h1,h2⟩,h3⟩,h4⟩:=h
 refine ⟨?_,h2,h3,fun y hy e=>?_,fun y hy e=>?_⟩
 ·split at h1
  ·assumption
  ·cases h1
 ·have q:=h4 y hy
  simp only [e] at q
  split at q <;> first | exact .inl (by assumption) | exact .inr (by assumption) | cases q
 ·have q:=h4 y hy
  rcases e with e | e <;> (simp only [e,Bool.or_eq_true,decide_eq_true_eq] at q; exact q)
end L2
namespace L2
open PySem PySem.Spec PyProof.Rows
section
variable {prog:Program} {w:World} {A:Around} {R:Result->Shared->Prop} {s:Shared} {elt t0 i0 t1 i1:Expr} {ifs0 ifs1:List Expr} {scope:Scope} {pos:Pos} {it acc:Value} {env:Env}
end
section
variable {X:Cx}
end
end L2
namespace L2
open PySem PySem.Spec PyProof.Rows
section
variable {κ : Type} [DecidableEq κ]
def zR (kvs:List (κ × V)) (k:κ):Option V:=(kvs.find? fun kv=>decide (kv.1=k)).map (·.2)
def putK (kvs:List (κ × V)) (k:κ) (v:V):List (κ × V) :=
 if (kvs.any fun kv=>decide (kv.1=k))=true then kvs.map (fun kv=>if kv.1=k then (kv.1,v) else kv) else kvs++[(k,v)]
theorem Zs {p:κ × V} {r:List (κ × V)} {k:κ} (e:p.1=k):zR (p::r) k=some p.2:=by simp [zR,List.find?_cons,e]
theorem Zt {p:κ × V} {r:List (κ × V)} {k:κ} (e:¬ p.1=k):zR (p::r) k=zR r k:=by simp [zR,List.find?_cons,e]
theorem qa8 (k:κ):∀ kvs:List (κ × V),(kvs.any fun kv=>decide (kv.1=k))=(zR kvs k).isSome
 | []=>rfl
 | p::r=>by
  rw [List.any_cons]
  by_cases e:p.1=k
  ·simp only [Zs e,decide_eq_true e,Bool.true_or,Option.isSome_some]
  ·rw [Zt e,decide_eq_false e,Bool.false_or]; exact qa8 k r
theorem qaV (kvs:List (κ × V)) (k:κ) (v:V):(putK kvs k v).length<=kvs.length+1:=by
 unfold putK
 split
 ·rw [List.length_map]; omega
 ·rw [List.length_append,List.length_cons,List.length_nil]; omega
theorem qhO {kvs:List (κ × V)} {k:κ} (v:V) (h:zR kvs k=none):putK kvs k v=kvs++[(k,v)]:=by
 unfold putK
 rw [qa8,h]
 exact if_neg (by decide)
theorem jq.isSome_eq {o:Option V} {u:Option Value} (r:jq o u):o.isSome=u.isSome:=by
 cases o with
 | none=>cases u with
  | none=>rfl
  | some _=>exact (show False from r).elim
 | some _=>cases u with
  | none=>exact (show False from r).elim
  | some _=>rfl
theorem jq.getD {o:Option V} {u:Option Value} {d:V} {d':Value} (r:jq o u) (rd:RelV d d'):RelV (o.getD d) (u.getD d'):=by
 cases o with
 | none=>cases u with
  | none=>exact rd
  | some _=>exact (show False from r).elim
 | some _=>cases u with
  | none=>exact (show False from r).elim
  | some _=>exact r
theorem KV.val {kvs:List (κ × V)} {vs:List (κ × Value)} (r:KV kvs vs) (k:κ):jq (zR kvs k) (valueAt vs k):=by
 unfold KV at r
 induction r with
 | nil=>exact True.intro
 | @cons p q ps qs h t ih=>
  obtain ⟨h1,h2⟩:=h
  by_cases e:p.1=k
  ·have e':q.1=k:=h1.symm.trans e
   have b:valueAt (q::qs) k=some q.2:=by simp [valueAt,List.find?_cons,e']
   rw [Zs e,b]; exact h2
  ·have e':¬ q.1=k:=fun z=>e (h1.trans z)
   have b:valueAt (q::qs) k=valueAt qs k:=by simp [valueAt,List.find?_cons,e']
   rw [Zt e,b]; exact ih
theorem KV.any {kvs:List (κ × V)} {vs:List (κ × Value)} (r:KV kvs vs) (k:κ):(kvs.any fun kv=>decide (kv.1=k))=vs.any fun kv=>decide (kv.1=k):=by
 unfold KV at r
 induction r with
 | nil=>rfl
 | cons h t ih=>rw [List.any_cons,List.any_cons,ih,h.1]
theorem KV.repl {kvs:List (κ × V)} {vs:List (κ × Value)} (r:KV kvs vs) (k:κ) {y:V} {u:Value} (ry:RelV y u) :
  KV (kvs.map fun kv=>if kv.1=k then (kv.1,y) else kv) (vs.map fun kv=>if kv.1=k then (kv.1,u) else kv):=by
 unfold KV at r ⊢
 induction r with
 | nil=>exact .nil
 | @cons p q ps qs h t ih=>
  rw [List.map_cons,List.map_cons]
  refine .cons ?_ ih
  obtain ⟨h1,h2⟩:=h
  by_cases e:p.1=k
  ·rw [if_pos e,if_pos (h1.symm.trans e)]; exact ⟨h1,ry⟩
  ·rw [if_neg e,if_neg (fun z=>e (h1.trans z))]; exact ⟨h1,h2⟩
theorem KV.put {kvs:List (κ × V)} {vs:List (κ × Value)} (r:KV kvs vs) (k:κ) {y:V} {u:Value} (ry:RelV y u):KV (putK kvs k y) (stored vs k u):=by
 unfold putK stored
 rw [r.any k]
 by_cases e:(vs.any fun kv=>decide (kv.1=k))=true
 ·rw [if_pos e,if_pos e]; exact r.repl k ry
 ·rw [if_neg e,if_neg e]; exact Paired.snoc r ⟨rfl,ry⟩
theorem KV.length {kvs:List (κ × V)} {vs:List (κ × Value)} (r:KV kvs vs):kvs.length=vs.length:=Paired.length r
end
theorem qaF {P:Program} {w:World} {k:Key} {u:Value} (r:RelV (kV k) u):(zI P w).is k u=true:=by
 cases k with
 | inl i=>obtain ⟨t,e⟩:=(show ∃ t,u=Value.int i t from r); subst e; exact qeR P w i t
 | inr x=>obtain ⟨t,e⟩:=(show ∃ t,u=Value.str x t from r); subst e; exact qeS P w x t
theorem qcM {P:Program} {w:World}:∀ {ks:List Key} {us:List Value},qv (ks.map kV) us->ItemsAre (zI P w) ks us
 | [],_,r=>by rw [List.map_nil] at r; cases r; exact .nil
 | k::ks,_,r=>by
  rw [List.map_cons] at r
  cases r with
  | cons h t=>exact .cons (qaF h) (qcM t)
abbrev KT (H:Hp):List (List Key × V)->List (List Key × Addr × Value)->Prop:=Paired fun p q=>p.1=q.1/\H q.2.1=some (.tup (p.1.map kV))/\RelV p.2 q.2.2
theorem KT.val {H:Hp} {kvs:List (List Key × V)} {xs:List (List Key × Addr × Value)} (r:KT H kvs xs) (k:List Key):jq (zR kvs k) ((atKey xs k).map (·.2)):=by
 induction r with
 | nil=>exact True.intro
 | @cons p q ps qs h t ih=>
  obtain ⟨h1,_,h2⟩:=h
  by_cases e:p.1=k
  ·have e':q.1=k:=h1.symm.trans e
   have b:atKey (q::qs) k=some q.2:=by simp [atKey,List.find?_cons,e']
   rw [Zs e,b]; exact h2
  ·have e':¬ q.1=k:=fun z=>e (h1.trans z)
   have b:atKey (q::qs) k=atKey qs k:=by simp [atKey,List.find?_cons,e']
   rw [Zt e,b]; exact ih
theorem KT.repl {H:Hp} {kvs:List (List Key × V)} {xs:List (List Key × Addr × Value)} (r:KT H kvs xs) (k:List Key) {y:V} {u:Value} (ry:RelV y u) :
  KT H (kvs.map fun kv=>if kv.1=k then (kv.1,y) else kv) (xs.map (putAt k u)):=by
 induction r with
 | nil=>exact .nil
 | @cons p q ps qs h t ih=>
  rw [List.map_cons,List.map_cons]
  refine .cons ?_ ih
  obtain ⟨h1,h2,h3⟩:=h
  unfold putAt
  by_cases e:p.1=k
  ·rw [if_pos e,if_pos (h1.symm.trans e)]; exact ⟨h1,h2,ry⟩
  ·rw [if_neg e,if_neg (fun z=>e (h1.trans z))]; exact ⟨h1,h2,h3⟩
theorem KT.put {H:Hp} {kvs:List (List Key × V)} {xs:List (List Key × Addr × Value)} (r:KT H kvs xs) (k:List Key) {b:Addr} {y:V} {u:Value} (hb:H b=some (.tup (k.map kV))) (ry:RelV y u) :
  KT H (putK kvs k y) (storedH xs k b u):=by
 have e:(kvs.any fun kv=>decide (kv.1=k))=(atKey xs k).isSome:=by
  rw [qa8,(r.val k).isSome_eq,Option.isSome_map]
 unfold putK storedH
 rw [e]
 by_cases q:(atKey xs k).isSome=true
 ·rw [if_pos q,if_pos q]; exact r.repl k ry
 ·rw [if_neg q,if_neg q]; exact Paired.snoc r ⟨rfl,hb,ry⟩
theorem KT.keeps {H H':Hp} {kvs:List (List Key × V)} {xs:List (List Key × Addr × Value)} (r:KT H kvs xs) (ht:∀ b ys,H b=some (.tup ys)->H' b=some (.tup ys)):KT H' kvs xs :=
 Paired.mapP r fun _ _ z=>⟨z.1,ht _ _ z.2.1,z.2.2⟩
section
variable {P:Program} {w:World} {H:Hp} {h:Heap} {a:Addr}
theorem qiy {u:HO} (ok:HOk P w H h) (e:Rd H a u):zq P w H h a u:=e.ok ok
theorem qiz {kvs:List (Key × V)} (ok:HOk P w H h) (e:Rd H a (.dK kvs)):kvs.length<=sizeLine/\(a == sysModules)=false/\∃ vs,KV kvs vs/\h.DictOf (zI P w) a vs :=
 show zq P w H h a (.dK kvs) from qiy ok e
theorem qky {kvs:List (Key × V)} (ok:HOk P w H h) (e:H a=some (.dK kvs)):kvs.length<=sizeLine/\(a == sysModules)=false/\∃ vs,KV kvs vs/\h.DictOf (zI P w) a vs:=qiz ok (.inl e)
theorem qdU {ks:List Key} (ok:HOk P w H h) (e:H a=some (.tup (ks.map kV))):(tupleKind (zI P w)).is h ks a:=by
 obtain ⟨_,its,r,o,h1,h2,n,h3⟩:=(show zq P w H h a (.tup (ks.map kV)) from ok a _ e)
 exact ⟨o,its.toArray,n,h1,h2,h3,by simpa using qcM r⟩
theorem qiA {kvs:List (List Key × V)} (ok:HOk P w H h) (e:Rd H a (.dT kvs)):kvs.length<=sizeLine/\(a == sysModules)=false /\
  ∃ xs,KT H kvs xs/\h.DictOfH (tupleKind (zI P w)) a xs:=by
 obtain ⟨z,y,xs,r,o,es,ep,h1,h2,h3,h4,h5⟩:=(show zq P w H h a (.dT kvs) from qiy ok e)
 refine ⟨z,y,xs,r,o,es,ep,h1,h2,h3,h4,fun x hx=>?_,h5⟩
 have all:∀ {l:List (List Key × V)} {m:List (List Key × Addr × Value)},KT H l m->∀ x∈m,(tupleKind (zI P w)).is h x.1 x.2.1:=by
  intro l m q
  induction q with
  | nil=>intro x hx; exact nomatch hx
  | @cons p q ps qs hq t ih=>
   intro x hx
   rcases List.mem_cons.mp hx with e | hx
   ·subst e
    exact qdU ok (by rw [<- hq.1]; exact hq.2.1)
   ·exact ih x hx
 exact all r x hx
theorem qkz {kvs:List (List Key × V)} (ok:HOk P w H h) (e:H a=some (.dT kvs)):kvs.length<=sizeLine/\(a == sysModules)=false /\
  ∃ xs,KT H kvs xs/\h.DictOfH (tupleKind (zI P w)) a xs:=qiA ok (.inl e)
end
def qdV (H:Hp) (a:Addr) (y:V) (r:Option V):Prop :=
 (∃ kvs k,Rd H a (.dK kvs)/\y=kV k/\r=zR kvs k) \/ ∃ kvs k b,Rd H a (.dT kvs)/\y=.ref b/\H b=some (.tup (k.map kV))/\r=zR kvs k
def qdW (H:Hp) (a:Addr) (y v:V) (H':Hp):Prop :=
 (∃ kvs k,H a=some (.dK kvs)/\y=kV k/\kvs.length<sizeLine/\H'=upd H a (.dK (putK kvs k v))) \/
 ∃ kvs k b,H a=some (.dT kvs)/\y=.ref b/\H b=some (.tup (k.map kV))/\kvs.length<sizeLine/\H'=upd H a (.dT (putK kvs k v))
theorem qdV.t {H:Hp} {a b:Addr} {kvs:List (List Key × V)} {k:List Key} (e:H a=some (.dT kvs)) (eb:H b=some (.tup (k.map kV))):qdV H a (.ref b) (zR kvs k):=.inr ⟨kvs,k,b,.inl e,rfl,eb,rfl⟩
theorem qdW.t {H:Hp} {a b:Addr} {kvs:List (List Key × V)} {k:List Key} {v:V} (e:H a=some (.dT kvs)) (eb:H b=some (.tup (k.map kV))) (hl:kvs.length<sizeLine) :
  qdW H a (.ref b) v (upd H a (.dT (putK kvs k v))):=.inr ⟨kvs,k,b,e,rfl,eb,hl,rfl⟩
section
variable {X:Cx} {pins:List (Addr × Obj)} {σ : St} {H:Hp} {s:Shared} {a:Addr} {y v:V} {u r:Value} {o:Option V} {A:Around} {E:Value->Shared->Prop}
theorem Inv.big (I:Inv X pins σ H s):sysModules<s.heap.objs.size:=by
 have h:mainGlobals<s.heap.objs.size:=(I.mod.glob.keeps I.bk).lt
 exact Nat.lt_trans (by decide) h
theorem qkV {Q:Value->Shared->Prop} (hu:A.units+1<cLine) (I:Inv X pins σ H s) (g:qdV H a y o) (ry:RelV y u) (h:∀ s',Inv X pins σ H s'->Q (.bool o.isSome) s') :
  wpAny (model X.prog X.w) A (compareOp .In u (.ref a)) Q E s:=by
 rcases g with ⟨kvs,k,e,ey,l⟩ | ⟨kvs,k,b,e,ey,eb,l⟩
 ·subst ey
  obtain ⟨z,hd,vs,rel,dd⟩:=qiz I.hok e
  refine wpAny_in_of (qaF ry) hd dd.mapOf ?_
  rw [<- (rel.val k).isSome_eq,<- l]
  exact h _ (I.tok _)
 ·subst ey
  cases (show u=Value.ref b from ry)
  obtain ⟨z,hd,xs,rel,dd⟩:=qiA I.hok e
  refine wpAny_in_heap (tupleKind_room_in1 hu) (qdU I.hok eb) hd dd ?_
  have q:=(rel.val k).isSome_eq
  rw [Option.isSome_map] at q
  rw [<- q,<- l]
  exact h _ (I.tok _)
theorem qfq {h':Heap} {t':Nat} {ob:HO} (I:Inv X pins σ H s) (mu:Mut (H a)) (hs:Heap.SameBut a s.heap h') (he:∃ q,h'.get? a=some q) (new:zq X.prog X.w (upd H a ob) h' a ob) :
  Inv X pins σ (upd H a ob) { s with heap:=h',toks:=t' } :=
 I.write (x:=a) (e:=a) mu (.inl rfl) (fun b q hb z=>(hs.2 b hb).trans z) he new
theorem qjU {P:Program} {w:World} {H':Hp} {h':Heap} {kvs:List (Key × V)} {vs:List (Key × Value)} (z:kvs.length<=sizeLine) (hd:(a == sysModules)=false) (rel:KV kvs vs) (dd:h'.DictOf (zI P w) a vs) :
  zq P w H' h' a (.dK kvs):=⟨z,hd,vs,rel,dd⟩
theorem qgF {H':Hp} {Q:Unit->Shared->Prop} (hu:A.units+1<cLine) (I:Inv X pins σ H s) (g:qdW H a y v H') (ry:RelV y u) (rv:RelV v r) (h:∀ s',Inv X pins σ H' s'->Q () s') :
  wpAny (model X.prog X.w) A (setItem (.ref a) u r) Q E s:=by
 rcases g with ⟨kvs,k,e,ey,l,eH⟩ | ⟨kvs,k,b,e,ey,eb,l,eH⟩
 ·subst ey eH
  obtain ⟨z,hd,vs,rel,dd⟩:=qky I.hok e
  have hz:vs.length<=sizeLine:=by rw [<- rel.length]; exact z
  have hl:(putK kvs k v).length<=sizeLine:=by have:=qaV kvs k v; omega
  refine wpAny_setItem_pairs (hsz:=hz) (qaF ry) dd fun h' dd' hs=>h _ ?_
  have he:∃ q,h'.get? a=some q:=let ⟨q,_,_,hq,_⟩:=dd'; ⟨q,hq⟩
  exact qfq I (by rw [e]; exact True.intro) hs he (qjU hl hd (rel.put k rv) dd')
 ·subst ey eH
  cases (show u=Value.ref b from ry)
  obtain ⟨z,hd,xs,rel,dd⟩:=qkz I.hok e
  have hz:xs.length<=sizeLine:=by rw [<- Paired.length rel]; exact z
  have hl:(putK kvs k v).length<=sizeLine:=by have:=qaV kvs k v; omega
  refine wpAny_setItem_heap (hsz:=hz) (tupleKind_room_in1 hu) (qdU I.hok eb) dd fun h' dd' hs=>h _ ?_
  obtain ⟨q,es,ep,hq,h2,h3,h4,_,h5⟩:=dd'
  refine qfq I (by rw [e]; exact True.intro) hs ⟨q,hq⟩ ⟨hl,hd,_,(rel.put k eb rv).keeps fun c ys ec=>?_,q,es,ep,hq,h2,h3,h4,h5⟩
  rw [qa (qaA ec e (fun z=>nomatch z))]
  exact ec
end
section
variable {X:Cx} {pins:List (Addr × Obj)} {σ : St} {H:Hp} {s:Shared} {a:Addr} {kvs:List (Key × V)} {k:Key} {u:Value} {A:Around} {E:Value->Shared->Prop}
end
def qjV (i:Expr):Prop:=∀ ov iv,subscripted i false ov iv=operate [ov,iv] (getItem ov iv)
theorem qiZ {prog:Program} {w:World} {A:Around} {E:Value->Shared->Prop} {s:Shared} {env:Env} {value slice:Expr} {pos:Pos} {T id:String} {Q:Value->Shared->Prop}
  (hl:typeLookup (.type T) "__getitem__" = pure (some (.builtin id))) (hs:qjV slice)
  (h:wpAny (model prog w) A (eval value env) (fun o s₁=>wpAny (model prog w) A (eval slice env) (fun i s₂=>s₂.TypeIs o T/\wpAny (model prog w) A (getItem o i) Q E s₂) E s₁) E s) :
  wpAny (model prog w) A (eval (.Subscript value slice pos) env) Q E s:=by
 refine Subscript_ (wpAny_mono h (fun o s₁ h₁=>wpAny_mono h₁ (fun i s₂ h₂=>?_) fun _ _ x=>x) fun _ _ x=>x)
 obtain ⟨hT,h₂⟩:=h₂
 unfold subscriptTail
 refine wpAny_bind ?_
 rw [getitemInPython_of_ne hT.not_modules]
 refine wpAny_bind (wpAny_specialOf hT hl ?_)
 have fin:wpAny (model prog w) A (subscripted slice false o i) (fun r s₃=>wpAny (model prog w) A (letTemporaryGo value o r >>= fun _=>pure r) Q E s₃) E s₂:=by
  rw [hs o i]
  exact wpAny_operating (wpAny_mono h₂ (fun r s₃ h₃=>wpAny_bind (wpAny_letTemporaryGo (wpAny_pure h₃))) fun _ _ x=>x)
 first
  | exact wpAny_pure (wpAny_bind fin)
  | exact wpAny_bind (wpAny_pure (wpAny_bind fin))
  | exact wpAny_bind fin
def qkW (ty td:TE):TE:=fun σ H Q=>ty σ H fun y H1=>td σ H1 fun x H2=>∃ a o,x=.ref a/\qdV H2 a y o/\Q (.bl o.isSome) H2
def qkA (td ty tv:TE):TS:=fun D σ H=>tv σ H fun v H1=>td σ H1 fun x H2=>ty σ H2 fun y H3=>∃ a H4,x=.ref a/\qdW H3 a y v H4/\D.nx σ H4
section
variable {X:Cx} {o i e value:Expr} {pos pos' tpos:Pos} {td ty tv:TE}
theorem qjW (hu:X.A.units+1<cLine) (hi:PE X i ty) (ho:PE X o td):PC X .In i o (qkW ty td):=by
 intro pins s σ H Q I h
 refine thn (hi pins s σ H _ I h) fun iv s1 ⟨y,H1,I1,ry,q1⟩=>thn (ho pins s1 σ H1 _ I1 q1) fun u s2 ⟨x,H2,I2,rx,a,ov,ex,g,q2⟩=>?_
 subst ex
 obtain rfl:u=Value.ref a:=rx
 exact qkV hu I2 g ry fun s3 I3=>⟨.bl ov.isSome,H2,I3,rfl,q2⟩
theorem qi0 (hu:X.A.units+1<cLine) (ho:PE X o td) (hi:PE X i ty) (hv:PE X value tv) (hs:swapsWith value (some (.Subscript o i pos')) pos.line X.env=pure false) :
  PS X (.Assign [.Subscript o i pos'] value pos) (qkA td ty tv):=by
 intro pins s σ H D I h
 refine wpAny_Assign_Subscript (thn (hv pins s σ H _ I h) fun r s1 ⟨v,H1,I1,rv,q1⟩=>thn (ho pins s1 σ H1 _ I1 q1) fun u s2 ⟨x,H2,I2,rx,q2⟩=>thn (hi pins s2 σ H2 _ I2 q2) fun iv s3 ⟨y,H3,I3,ry,a,H4,ex,g,q3⟩=>?_) hs
 subst ex
 obtain rfl:u=Value.ref a:=rx
 exact qgF hu I3 g ry rv fun s4 I4=>⟨σ,H4,I4,q3⟩
end
theorem qhP {P:Program} {w:World} {H:Hp} (h:Heap) (hb:sysModules<h.objs.size):zq P w H (h.push { cls:=.type "dict",data:=.dict #[] }) h.objs.size (.dT []) :=
 ⟨Nat.zero_le _,beq_eq_false_iff_ne.mpr (Ne.symm (Nat.ne_of_lt hb)),[],.nil,_,#[],0,Heap.get?_push_size _ rfl,⟨rfl,rfl,rfl⟩,rfl,rfl,List.nodup_nil⟩
def qjX:TE:=fun _ H Q=>∀ p,H p=none->Q (.ref p) (upd H p (.dT []))
section
variable {X:Cx} {pos:Pos}
theorem qhQ:PE X (.Dict [] [] pos) qjX:=fun pins s σ H Q I h=>
 wpAny_Dict_empty ⟨.ref s.heap.objs.size,_,I.laid (a:=s.heap.objs.size) (o:=.dT []) (t':=s.toks) (fun _ _ q=>Heap.get?_push_of_some _ q) (Nat.le_refl _) (qhP s.heap I.big),rfl,h _ (I.hok.fresh (Nat.le_refl _))⟩
end
structure M1 (X:Cx) (o:Expr) (m:Str) (apos:Pos) (e:Expr) (cpos:Pos):Prop where
 base:attributeBase o m X.env (eval o X.env)=eval o X.env
 few:((backTo cpos (starEach [e] X.env)).all (fun x=>!x.1)&&(backToKw cpos (keywordEach [] X.env)).all (fun x=>x.1.isSome)
  && decide (([e]:List Expr).length+([]:List Keyword).length+(if ([]:List Keyword).isEmpty then 0 else 1)<30))=true
 line:(apos.endLine == cpos.line)=true
 trees:backTo cpos (starEach [e] X.env)=[(false,eval e X.env)]
section
variable {X:Cx} {pins:List (Addr × Obj)} {σ : St} {H:Hp} {s:Shared} {a:Addr} {y d:V} {u r:Value} {o:Option V} {A:Around} {E:Value->Shared->Prop}
end
section
variable {X:Cx} {o e f:Expr} {apos cpos:Pos} {td ty tx:TE}
end
section
variable {X:Cx} {pins:List (Addr × Obj)} {σ : St} {H:Hp} {s:Shared} {a:Addr} {kvs:List (Key × V)} {A:Around} {E:Value->Shared->Prop}
end
section
variable {X:Cx} {pins:List (Addr × Obj)} {σ : St} {H:Hp} {s:Shared} {a:Addr} {y:V} {u:Value} {A:Around} {E:Value->Shared->Prop}
end
end L2
namespace L2
open PySem PySem.Spec PyProof.Rows
section
variable {prog:Program} {w:World} {A:Around} {E:Value->Shared->Prop}
end
section
variable {X:Cx}
end
end L2
namespace L2
open PySem PySem.Spec PyProof.Rows
section
variable {X:Cx} {pins:List (Addr × Obj)} {σ : St} {H:Hp} {s:Shared} {h':Heap}
end
section
variable {X:Cx}
theorem qgG {tg:Expr} {pins:List (Addr × Obj)} {σ : St} {H:Hp} {s:Shared} {R:It->Hp->Prop} {J:It} {tn:Nat->Heap->Prop} {tk:Nat} (I:Inv X pins σ H s) (o:Obj)
  (T:Turn X.prog X.w X.K tg J [s.heap.objs.size] s.heap.objs.size tn) (st:tn 0 (s.heap.push o)) (q:R J H):PIE X pins σ tg R (.ref s.heap.objs.size) { s with heap:=s.heap.push o,toks:=tk }:=by
 refine ⟨s.heap.objs.size,[s.heap.objs.size],tn,J,H,rfl,I.kept fun b ob e=>Heap.get?_push_of_some _ e,T,st,fun b hb=>?_,q⟩
 have e:b=s.heap.objs.size:=by simpa using hb
 subst e
 exact I.fpOk (Nat.le_refl _) (I.hok.fresh (Nat.le_refl _))
end
section
variable {X:Cx} {tg:Expr}
end
section
variable {X:Cx} {tg:Expr}
end
def Its (x:Str):It:=⟨fun i _=>i<x.cps.size,fun i H v H'=>H'=H/\∃ c,x.cps[i]? = some c/\v=.str ⟨#[c]⟩,fun i _=>x.cps.size<=i⟩
theorem qdX {P:Program} {w:World} {K:PySem.W.Frag} {tg:Expr} (it:Addr) (x:Str) (t:Tok) (ty:String) (hty:ty = "str_ascii_iterator" \/ ty = "str_iterator") :
  Turn P w K tg (Its x) [it] it (fun i h=>h.IsStrIter it ty x t i) where
 mem:=by simp
 obj:=fun i h st b hb=>by
  have e:b=it:=by simpa using hb
  subst e
  obtain ⟨o,e,c,d⟩:=st
  exact ⟨o,e,fun v z=>by rw [d] at z; cases z⟩
 keep:=fun i h h' st k=>let ⟨o,ho,r⟩:=st; ⟨o,k it (by simp) o ho,r⟩
 item:=by
  intro X hP hw hK hc i pins s σ H E I hf st hg
  subst hP hw hK
  obtain ⟨f0,f1,f2,f3,f4,f5⟩:=hf it (by simp)
  have W:Walks X.prog X.w X.A it [it] [it] x.cps.size (SignAt x) (fun i h=>h.IsStrIter it ty x t i):=by
   rcases hty with e | e
   ·rw [e]; exact Walks.strAscii (I.ok.hd hc) it x t
   ·rw [e]; exact Walks.strWide (I.ok.hd hc) it x t
  have hno:["enumerate","zip","dict_itemiterator","dict_reverseitemiterator","odict_iterator","itertools.zip_longest","itertools.pairwise"].contains ty=false:=by
   rcases hty with e | e
   ·rw [e]; decide
   ·rw [e]; decide
  refine W.item i s _ _ hg st fun v h' tk hv st' kk=>?_
  obtain ⟨c,u,hcx,rfl⟩:=hv
  have I1:Inv X pins σ H { s with heap:=h',toks:=tk }:=I.turned (fun b o hb e=>kk b o (by simpa using hb) e) f0 f1 f3 f4 f5
  obtain ⟨oi,e,cc,dd⟩:=id st'
  exact ⟨_,rfl,qfK (s:={ s with heap:=h',toks:=tk }) e cc dd hno ⟨.str ⟨#[c]⟩,H,I1,⟨u,rfl⟩,⟨rfl,c,hcx,rfl⟩,st',fun b hb=>(hf b hb).1⟩⟩
 done:=by
  intro X hP hw hK hc i pins s σ H E I hf st hg
  subst hP hw hK
  obtain ⟨f0,f1,f2,f3,f4,f5⟩:=hf it (by simp)
  have hx:x.cps[i]? = none:=Array.getElem?_eq_none hg
  rcases hty with e | e
  ·rw [e] at st
   exact wpAny_pyNext_ascii_end (I.ok.hd hc) st hx fun h' eb=>⟨rfl,I.turned (t':=s.toks) (fun b o hb e=>eb b o hb e) f0 f1 f3 f4 f5⟩
  ·rw [e] at st
   exact wpAny_pyNext_wide_end (I.ok.hd hc) st hx fun h' eb=>⟨rfl,I.turned (t':=s.toks) (fun b o hb e=>eb b o hb e) f0 f1 f3 f4 f5⟩
 self:=fun A i s Q E st h=>by
  rcases hty with e | e
  ·rw [e] at st; exact wpAny_pyIter_striter_ascii st h
  ·rw [e] at st; exact wpAny_pyIter_striter_wide st h
def qkX (te:TE):TI:=fun σ H R=>te σ H fun v H1=>∃ x,v=.str x/\R (Its x) H1
theorem qjY {X:Cx} {tg e:Expr} {te:TE} (he:PE X e te):PI X tg e (qkX te):=by
 intro pins s σ H R I h
 refine thn (he pins s σ H _ I h) fun v s1 ⟨y,H1,I1,r1,x,ex,q⟩=>?_
 subst ex
 obtain ⟨t,rfl⟩:=r1
 cases ha:x.cps.all (· < 128)
 ·exact wpAny_pyIter_wide ha (qgG (tk:=s1.toks) I1 _ (qdX _ x t "str_iterator" (.inr rfl)) ⟨_,Heap.get?_push_size _ rfl,rfl,rfl⟩ q)
 ·exact wpAny_pyIter_ascii ha (qgG (tk:=s1.toks) I1 _ (qdX _ x t "str_ascii_iterator" (.inl rfl)) ⟨_,Heap.get?_push_size _ rfl,rfl,rfl⟩ q)
section
variable {prog:Program} {w:World} {A:Around} {E:Value->Shared->Prop} {s:Shared}
end
section
variable {X:Cx} {pins:List (Addr × Obj)} {σ : St} {H:Hp} {s:Shared} {d:Addr} {o:Obj}
end
section
variable {P:Program} {w:World} {K:PySem.W.Frag} {tg:Expr} {d:Addr} {o:Obj} {es:Array DictEntry} {ep:Nat}
end
section
variable {X:Cx} {tg e:Expr} {td:TE} {apos cpos:Pos}
end
end L2
section
namespace Bits
open PySem PyProof.Rows
end Bits
end
section
namespace TL
open PySem PySem.Builtin PySem.Builtin.Str PySem.StrLaws
end TL
end
namespace L2
open PySem PySem.Spec PyProof.Rows
theorem qcN:∀ l:List (Str × Tok),qv ((l.map (·.1)).map V.str) (strValues l)
 | []=>.nil
 | p::r=>.cons ⟨p.2,rfl⟩ (qcN r)
def qa9 (ys:List Str):Hp->VK->Prop:=fun H Q=>∀ p,H p=none->Q (.ref p) (upd H p (.lst (ys.map V.str)))
section
variable {X:Cx} {pins:List (Addr × Obj)} {σ : St} {H:Hp} {s:Shared} {Q:VK}
theorem qcO {l:List (Str × Tok)} {ys:List Str} {k:Nat} (I:Inv X pins σ H s) (e:l.map (·.1)=ys) (hz:ys.length<=sizeLine) (h:qa9 ys H Q) :
  EP X pins σ Q (.ref s.heap.objs.size) { s with toks:=k,heap:=s.heap.push { cls:=.type "list",data:=.seq (strValues l).toArray } }:=by
 have hp:=I.hok.fresh (Nat.le_refl _)
 refine ⟨.ref s.heap.objs.size,upd H s.heap.objs.size (.lst (ys.map V.str)),I.laid (fun b u q=>Heap.get?_push_of_some _ q) (Nat.le_refl _) ⟨by rw [List.length_map]; exact hz,strValues l,_,?_,Heap.get?_push_size _ rfl⟩,rfl,h _ hp⟩
 rw [<- e]
 exact qcN l
end
section
variable {X:Cx}
theorem qhR (x:Str):(Txt.words x).length<=x.length+1:=by
 have e1:=StrLaws.words_weight x
 omega
theorem qhS:MtR X "str.split" (fun x xs H Q=>∃ a,x=.str a/\xs=[]/\a.length+2<=sizeLine/\qa9 (Txt.words a) H Q):=by
 intro pins s σ H x xs v us Q I rx rs h
 obtain ⟨a,rfl,rfl,hz,h⟩:=h
 obtain ⟨t,rfl⟩:=rx
 cases rs
 have hl:(Txt.words a).length<=sizeLine:=Nat.le_trans (qhR a) (by omega)
 have hn:(Builtin.Str.spaceWords a (a.length+1)).length<=sizeLine:=by
  have e1:=(StrLaws.sw_weight a).1
  have e2:=StrLaws.len_le_wsum (Builtin.Str.spaceWords a (a.length+1))
  omega
 refine call_meets F.slot_str_split (typeIs_str _ _ _) F.entry_str_split (F.args_str_split_1 _) (meets_str_split_space a t (by omega) hn) ?_
 cases hw:Builtin.Str.spaceWords a (a.length+1) == [(0,a.length)]
 ·simp only [Bool.false_eq_true,if_false]
  rw [strsFrom_eq]
  exact qcO (ys:=Txt.words a) I ((numbered_texts _ _).trans (if_neg (ne_true_of_eq_false hw)).symm) hl h
 ·simp only [if_true]
  exact qcO (l:=[(a,t)]) (ys:=Txt.words a) (k:=s.toks) I (if_pos hw).symm hl h
theorem mt1 {id:String} {g:Str->Str->V} (rule:∀ (a b:Str) (t u:Tok) (s:Shared) (Q:Value->Shared->Prop),(∀ (v:Value) (k:Nat),RelV (g a b) v->Q v { s with toks:=k }) ->
  wpAny (model X.prog X.w) X.A (call (.builtin id) [.str a t,.str b u]) Q X.xe s):MtR X id (fun x xs H Q=>∃ a b,x=.str a/\xs=[.str b]/\Q (g a b) H):=by
 intro pins s σ H x xs v us Q I rx rs h
 obtain ⟨a,b,rfl,rfl,h⟩:=h
 obtain ⟨t,rfl⟩:=rx
 cases rs with
 | cons r1 rs=>
  cases rs
  obtain ⟨u,rfl⟩:=r1
  exact rule a b t u s _ fun v k r=>⟨g a b,H,I.tok k,r,h⟩
theorem qdl:MtR X "str.startswith" (fun x xs H Q=>∃ a b,x=.str a/\xs=[.str b]/\Q (.bl (Txt.startswith a b)) H) :=
 mt1 (g:=fun a b=>.bl (Txt.startswith a b)) fun _ _ _ _ s _ h=>PySem.SC.startswith (h _ s.toks rfl)
end
section
variable {X:Cx} {o e:Expr} {to te:TE}
def tM0 (r:V->List V->Hp->VK->Prop) (to:TE):TE:=fun σ H Q=>to σ H fun x H1=>(∃ a,x=.str a)/\r x [] H1 Q
def tM1 (r:V->List V->Hp->VK->Prop) (to te:TE):TE:=fun σ H Q=>to σ H fun x H1=>(∃ a,x=.str a)/\te σ H1 fun y H2=>r x [y] H2 Q
theorem qkB {id:String} {name:Str} {apos pos:Pos} {r:V->List V->Hp->VK->Prop} (slot:Slot "str" name id) (ty:typeOf (.builtin id)=pure (.type "method_descriptor")) (rule:MtR X id r) (ho:PE X o to)
  (hbase:attributeBase o name X.env (eval o X.env)=eval o X.env:=by rfl) (hline:(apos.endLine == pos.line)=true:=by rfl):PE X (.Call (.Attribute o name apos) [] [] pos) (tM0 r to):=by
 intro pins s σ H Q I h
 refine PySem.Call_method0 hbase hline (thn (ho pins s σ H _ I h) fun v s1 ⟨x,H1,I1,r1,q1⟩=>?_)
 obtain ⟨⟨a,rfl⟩,q1⟩:=q1
 obtain ⟨t,rfl⟩:=_root_.id r1
 exact ⟨"str",_,F.plainAttrs_str,slot,ty,typeIs_str _ _ _,(fun _ e=>nomatch e),Calls.callWith_builtin rfl (PySem.evalArgs_none (rule pins s1 σ H1 _ [] _ [] Q I1 r1 .nil q1))⟩
theorem qkC {id:String} {name:Str} {apos pos:Pos} {r:V->List V->Hp->VK->Prop} (slot:Slot "str" name id) (ty:typeOf (.builtin id)=pure (.type "method_descriptor")) (rule:MtR X id r) (ho:PE X o to) (he:PE X e te)
  (hs:starEach [e] X.env=[(false,eval e X.env)]:=by rfl) (hbase:attributeBase o name X.env (eval o X.env)=eval o X.env:=by rfl) (hline:(apos.endLine == pos.line)=true:=by rfl) :
  PE X (.Call (.Attribute o name apos) [e] [] pos) (tM1 r to te):=by
 intro pins s σ H Q I h
 refine PySem.Call_method1 hbase hs hline (thn (ho pins s σ H _ I h) fun v s1 ⟨x,H1,I1,r1,q1⟩=>?_)
 obtain ⟨⟨a,rfl⟩,q1⟩:=q1
 obtain ⟨t,rfl⟩:=_root_.id r1
 refine ⟨"str",_,F.plainAttrs_str,slot,ty,typeIs_str _ _ _,(fun _ e=>nomatch e),Calls.callWith_builtin rfl (Calls.evalArgs_plain (Calls.spliced_cons ?_))⟩
 exact thn (he pins s1 σ H1 _ I1 q1) fun u s2 ⟨y,H2,I2,r2,q2⟩=>Calls.spliced_nil (rule pins s2 σ H2 _ [y] _ [u] Q I2 r1 (.cons r2 .nil) q2)
theorem qhT {apos pos:Pos} (ho:PE X o to) (hbase:attributeBase o "split" X.env (eval o X.env)=eval o X.env:=by rfl) (hline:(apos.endLine == pos.line)=true:=by rfl) :
  PE X (.Call (.Attribute o "split" apos) [] [] pos) (tM0 (fun x xs H Q=>∃ a,x=.str a/\xs=[]/\a.length+2<=sizeLine/\qa9 (Txt.words a) H Q) to) :=
 qkB F.slot_str_split F.type_str_split qhS ho hbase hline
end
end L2
namespace L2
open PySem PySem.Spec PyProof.Rows
section
variable {X:Cx}
end
theorem IsPart.raw {v:Value} {o:Option Int} (p:IsPart v o):∃ l:Option (Int × Tok),v=partValue l/\l.map (·.1)=o:=by
 cases p with
 | none=>exact ⟨none,rfl,rfl⟩
 | int i t=>exact ⟨some (i,t),rfl,rfl⟩
def qbA (n d:Nat):Option Int->Int
 | none=>(d:Int)
 | some i=>max 0 (min (if i<0 then i+(n:Int) else i) (n:Int))
theorem qdY (n d:Nat) (o:Option Int):qbA n d o=((HT.sIx n d o:Nat):Int):=by
 cases o with
 | none=>rfl
 | some v=>
  show max (0:Int) (min (if v<0 then v+(n:Int) else v) (n:Int))=(((if v<0 then (v+(n:Int)).toNat else min v.toNat n):Nat):Int)
  by_cases hv:v<0
  ·simp only [if_pos hv]
   omega
  ·simp only [if_neg hv]
   omega
theorem qgH (a b:Option Int) (n:Nat):Builtin.Str.strSliceIndices a b 1 n=sliceRange (qbA n 0 a) (qbA n n b) 1:=by
 have h1:((1:Int) > 0)=True:=by simp
 cases a <;> cases b <;> first
  | rfl
  | (simp only [Builtin.Str.strSliceIndices,qbA,h1,if_true]; rfl)
  | simp [Builtin.Str.strSliceIndices,qbA]
theorem qkY (a b:Option Int) (n:Nat):Builtin.Str.strSliceIndices a b 1 n=(List.range (HT.sIx n n b - HT.sIx n 0 a)).map (fun k=>HT.sIx n 0 a+k):=by
 rw [qgH,qdY,qdY]
 generalize HT.sIx n 0 a=p
 generalize HT.sIx n n b=q
 simp only [sliceRange,show ((1:Int) > 0)=True from by simp,if_true]
 by_cases hlt:(p:Int)<q
 ·have e3:(((q:Int) - p+1 - 1) / 1).toNat=q - p:=by first | omega | (simp; done) | (simp; omega)
  simp only [hlt,if_true,e3]
  refine List.map_congr_left fun k _=>?_
  omega
 ·have:q - p=0:=by omega
  simp [hlt,this]
def qdZ (z:Str) (lo hi:Option Int):Str :=
 ⟨((z.cps.toList.drop (HT.sIx z.length 0 lo)).take (HT.sIx z.length z.length hi - HT.sIx z.length 0 lo)).toArray⟩
theorem JF (z:Str) (lo hi:Option Int):PySem.StrLaws.sliceText z lo hi=qdZ z lo hi:=by
 have h1:HT.sIx z.length 0 lo<=z.length:=HT.qgB _ _ (Nat.zero_le _) _
 have h2:HT.sIx z.length z.length hi<=z.length:=HT.qgB _ _ (Nat.le_refl _) _
 have hp:HT.sIx z.length 0 lo<=max (HT.sIx z.length 0 lo) (HT.sIx z.length z.length hi):=Nat.le_max_left _ _
 have hq:max (HT.sIx z.length 0 lo) (HT.sIx z.length z.length hi)<=z.length:=Nat.max_le.mpr ⟨h1,h2⟩
 have hd:max (HT.sIx z.length 0 lo) (HT.sIx z.length z.length hi) - HT.sIx z.length 0 lo=HT.sIx z.length z.length hi - HT.sIx z.length 0 lo:=by omega
 have e:Builtin.Str.strSliceIndices lo hi 1 z.length =
   Builtin.Str.strSliceIndices (some ((HT.sIx z.length 0 lo:Nat):Int)) (some ((max (HT.sIx z.length 0 lo) (HT.sIx z.length z.length hi):Nat):Int)) 1 z.length:=by
  rw [PySem.StrLaws.strSliceIndices_plain hp hq,hd,qkY]
 have e2:PySem.StrLaws.sliceText z lo hi =
   PySem.StrLaws.sliceText z (some ((HT.sIx z.length 0 lo:Nat):Int)) (some ((max (HT.sIx z.length 0 lo) (HT.sIx z.length z.length hi):Nat):Int)):=by
  unfold PySem.StrLaws.sliceText
  rw [e]
 rw [e2,PySem.StrLaws.sliceText_nat z hp hq,hd]
 rfl
theorem qeW (z:Str) (lo hi:Option Int):(qdZ z lo hi).length<=z.length:=by
 show (((z.cps.toList.drop (HT.sIx z.length 0 lo)).take (HT.sIx z.length z.length hi - HT.sIx z.length 0 lo)).toArray).size<=z.cps.size
 rw [List.size_toArray,List.length_take,List.length_drop,Array.length_toList]
 omega
def qkZ:V->Option Int->Option Int->Hp->VK->Prop:=fun x lo hi H Q=>∃ z,x=.str z/\z.length<=sizeLine/\Q (.str (qdZ z lo hi)) H
theorem qjZ {X:Cx}:SlR X qkZ:=by
 intro pins s σ H x v vl vu lo hi sl Q I rx hs pl pu h
 obtain ⟨z,rfl,hz,q⟩:=h
 obtain ⟨t,rfl⟩:=rx
 obtain ⟨os,hos,hcs,hds⟩:=hs
 obtain ⟨l,rfl,rfl⟩:=IsPart.raw pl
 obtain ⟨u,rfl,rfl⟩:=IsPart.raw pu
 refine ⟨"str",_,F.slot_str_getitem.lookup,typeIs_str _ _ _,?_⟩
 refine wpAny_getItem_str_slice (l:=l) (u:=u) (st:=none) ⟨os,hos,hcs,hds⟩ rfl ?_
 have hl:(PySem.StrLaws.sliceText z (l.map (·.1)) (u.map (·.1))).length<=sizeLine:=by
  rw [JF]
  exact Nat.le_trans (qeW z _ _) hz
 rw [<- JF] at q
 unfold PySem.StrLaws.sliceText at q hl
 show Made.post (if ((1:Int) == 1&&(Builtin.Str.strSliceIndices (l.map (·.1)) (u.map (·.1)) 1 z.length).length == z.length)=true then Made.val (.str z t)
  else Made.str ⟨((Builtin.Str.strSliceIndices (l.map (·.1)) (u.map (·.1)) 1 z.length).filterMap (z.cps[·]?)).toArray⟩) (EP X pins σ Q) s
 by_cases c:((1:Int) == 1&&(Builtin.Str.strSliceIndices (l.map (·.1)) (u.map (·.1)) 1 z.length).length == z.length)=true
 ·rw [if_pos c] at q ⊢
  exact ⟨.str z,H,I,⟨t,rfl⟩,q⟩
 ·rw [if_neg c] at q hl ⊢
  exact ⟨hl,.str _,H,I.tok _,⟨_,rfl⟩,q⟩
end L2
namespace Att
open PySem PySem.W PySem.Calls PyProof.Rows
section
variable {prog:Program} {w:World} {A:Around} {E:Value->Shared->Prop} {s:Shared} {K:Frag}
end
end Att
namespace L2
open PySem PySem.Spec PyProof.Rows
end L2
namespace L2
open PySem PySem.Spec PyProof.Rows
end L2
namespace L2
open PySem PySem.Spec PyProof.Rows
def inClass (s:Stmt) (j:Nat):Stmt:=match s with
 | .ClassDef _ _ _ body _ _ _ _ _ _ _=>body.getD j (.Pass ⟨0,0,0,0⟩)
 | _=>.Pass ⟨0,0,0,0⟩
def qr (s:Stmt):Arguments:=match s with
 | .FunctionDef _ a _ _ _ _ _ _ _ _=>a
 | _=>{ posonlyargs:=[],args:=[],vararg:=none,kwonlyargs:=[],kw_defaults:=[],kwarg:=none,defaults:=[] }
def qm (s:Stmt):List Stmt:=match s with
 | .FunctionDef _ _ b _ _ _ _ _ _ _=>b
 | _=>[]
def qe (s:Stmt):Scope:=match s with
 | .FunctionDef _ _ _ _ _ _ sc _ _ _=>sc
 | _=>{ kind:=.function,names:=[],isGenerator:=false,isCoroutine:=false }
abbrev CX0:CXT:=fun _ _ _ _ _ _=>False
abbrev E0:XK:=fun _ _ _=>False
theorem qI {X:Cx}:zT CX0 X E0:=fun _ _ _ _ _ _ _ h=>h.elim
structure Fun (K:PySem.W.Frag) (x qual:Str) (st:Stmt) (f:Addr) (fd:FuncData):Prop where
 ex:∃ (oc:Value) (od:Option Addr) (kV doc pm:Value) (an:Option Addr) (cdv ct:Value) (osl:Array (Option Value)),
  fd=PySem.W.fnOf x qual (qr st) (qm st) (qe st) .none kV doc pm an cdv ct/\K.lookup f=some ⟨oc,od,.func fd,osl⟩/\PySem.W.codeIn K cdv qual=true
 kp:PySem.W.keepIn K (.ref f)=true
section
variable {P:Program} {w:World} {K:PySem.W.Frag} {mg:Str->Option Value} {base:Heap}
theorem Fun.ok {x qual:Str} {st:Stmt} {f:Addr} {fd:FuncData} {N ps:List Str} {k:Nat} {sp:Sp} (F:Fun K x qual st f fd) (S:qo N ps (qe st)) (len:∀ vs H Q E,sp vs H Q E->vs.length=ps.length)
  (hbody:∀ (cdv:Value) (A:Around) (outer:List Env) (s:Shared) (H:Hp) (vs:List V) (Q:VK) (E:XK),qE k (A.deeper (envOfC qual (qe st) s.heap.objs.size f cdv))->sp vs H Q E ->
   ∃ t,PSs (qF CX0 P w K mg base N qual (qe st) f cdv A outer s H E).nox (qm st) t/\t { nx:=fun _ H'=>Q .non H',rt:=Q } (start N vs) H):qB P w K mg base CX0 (k+1) f fd ps sp:=by
 obtain ⟨oc,od,kV,doc,pm,an,cdv,ct,osl,rfl,lk,hcd⟩:=F.ex
 refine qfO lk hcd S len fun A outer s H vs Q E hr hsp=>?_
 obtain ⟨t,h,q⟩:=hbody cdv A outer s H vs Q E hr hsp
 exact ⟨t,h.nox,q⟩
theorem Fun.binds {x qual:Str} {st:Stmt} {f:Addr} {fd:FuncData} {ps:List Str} (F:Fun K x qual st f fd)
  (h:∀ (kV doc pm:Value) (an:Option Addr) (cdv ct:Value) (us:List Value),us.length=ps.length->bindArgs (PySem.W.fnOf x qual (qr st) (qm st) (qe st) .none kV doc pm an cdv ct) ⟨us,[]⟩=pure (ps.zip us)):Binds K fd ps []:=by
 obtain ⟨oc,od,kV,doc,pm,an,cdv,ct,osl,rfl,lk,hcd⟩:=F.ex
 exact .all (h kV doc pm an cdv ct)
theorem qA {x qual:Str} {st:Stmt} {f:Addr} {oc:Value} {od an:Option Addr} {osl:Array (Option Value)} {kV doc pm cdv ct:Value} (l:K.lookup f=some ⟨oc,od,.func (PySem.W.fnOf x qual (qr st) (qm st) (qe st) .none kV doc pm an cdv ct),osl⟩)
  (c:PySem.W.codeIn K cdv qual=true) (k:PySem.W.keepIn K (.ref f)=true):Fun K x qual st f (PySem.W.fnOf x qual (qr st) (qm st) (qe st) .none kV doc pm an cdv ct):=⟨⟨oc,od,kV,doc,pm,an,cdv,ct,osl,rfl,l,c⟩,k⟩
end
theorem qkD {A:Around} {k:Nat} (hr:qE k A):A.units+1<cLine:=Nat.lt_of_le_of_lt (Nat.add_le_add_left (by decide:1<=64) _) hr.units
theorem QG {n:Nat} (h:n<=1000):n<sizeLine:=Nat.lt_of_le_of_lt h (by decide)
section
variable {X:Cx}
theorem pv (i:Nat) {x:Str} {pos:Pos} (hN:X.N[i]? = some x:=by rfl) (hv:Vis X.env.scope x:=by first | exact Or.inl rfl | exact Or.inr (Or.inl rfl) | exact Or.inr (Or.inr rfl)) (hd:(x == ("__debug__" : Str))=false:=by decide)
  (hcd:(x == ("__classdict__" : Str))=false:=by decide):PE X (.Name x pos) (jt i):=qdG hN hv hd hcd
end
theorem zr {A B:Prop} (h:B):if false=true then A else B:=by
 rw [if_neg Bool.false_ne_true]
 exact h
theorem zU {A B:Prop} (h:A):if true=true then A else B:=by
 rw [if_pos rfl]
 exact h
theorem jr {c A B:Prop} [Decidable c] (h1:c->A) (h2:¬ c->B):if c then A else B:=by
 by_cases h:c
 ·rw [if_pos h]
  exact h1 h
 ·rw [if_neg h]
  exact h2 h
def qM (H H':Hp):Prop:=∀ b o,H b=some o->H' b=some o
theorem qM.refl (H:Hp):qM H H:=fun _ _ h=>h
theorem qM.trans {H H1 H2:Hp} (a:qM H H1) (b:qM H1 H2):qM H H2:=fun c o h=>b c o (a c o h)
theorem qM.free {H H':Hp} (e:qM H H') {l:Addr} (h:H' l=Option.none):H l=Option.none:=by
 cases q:H l with
 | none=>rfl
 | some o=>
  rw [e l o q] at h
  cases h
theorem qM.seq {K:PySem.W.Frag} {H H':Hp} {a:Addr} {xs:List V} (e:qM H H') (h:SqL K H a xs):SqL K H' a xs:=by
 rcases h with (h | ⟨o,h⟩) | h
 ·exact .inl (.inl (e _ _ h))
 ·exact .inl (.inr ⟨o,e _ _ h⟩)
 ·exact .inr h
section
variable {κ : Type} [DecidableEq κ]
end
end L2
end
section
namespace L2
open PySem PySem.Spec PyProof.Rows
open LX (Fly)
def XOb (e C:Addr) (vs:Array Value) (dx:Option Addr):HO:=.ext fun h=>∃ sl,h.get? e=some ⟨.ref C,dx,.fields vs,sl⟩
def XDi (dx:Addr) (fs:List (Str × V)):HO:=.ext fun h=>∃ mA,h.Ns1 dx mA/\(∀ f,jq (fs.lookup f) (mA f))/\PySem.Within mA (fs.map (·.1))
theorem Z0 {P:Program} {w:World} {H:Hp} {h:Heap} {e C:Addr} {vs:Array Value} {dx:Option Addr} {sl:Array (Option Value)} (q:h.get? e=some ⟨.ref C,dx,.fields vs,sl⟩):zq P w H h e (XOb e C vs dx):=⟨⟨sl,q⟩,⟨_,q⟩,fun _ _ ⟨sl,z⟩ k=>⟨sl,k _ z⟩⟩
theorem qgI {P:Program} {w:World} {H:Hp} {h:Heap} {dx:Addr} {fs:List (Str × V)} {mA:Str->Option Value} (n:h.Ns1 dx mA) (r:∀ f,jq (fs.lookup f) (mA f)) (wi:PySem.Within mA (fs.map (·.1))):zq P w H h dx (XDi dx fs):=by
 obtain ⟨o,es,ep,ho,c⟩:=id n
 refine ⟨⟨mA,n,r,wi⟩,⟨o,ho⟩,fun h1 h2 z k=>?_⟩
 obtain ⟨mB,⟨o1,es1,ep1,ho1,c1⟩,r1,w1⟩:=z
 exact ⟨mB,⟨o1,es1,ep1,k _ ho1,c1⟩,r1,w1⟩
theorem HOk.xob {P:Program} {w:World} {H:Hp} {h:Heap} {e C:Addr} {vs:Array Value} {dx:Option Addr} (x:HOk P w H h) (q:H e=some (XOb e C vs dx)):∃ sl,h.get? e=some ⟨.ref C,dx,.fields vs,sl⟩:=(x _ _ q).1
theorem HOk.xdi {P:Program} {w:World} {H:Hp} {h:Heap} {dx:Addr} {fs:List (Str × V)} (x:HOk P w H h) (q:H dx=some (XDi dx fs)):∃ mA,h.Ns1 dx mA/\(∀ f,jq (fs.lookup f) (mA f))/\PySem.Within mA (fs.map (·.1)):=(x _ _ q).1
def jg (H:Hp) (a:Addr):Hp:=fun b=>if b=a then none else H b
theorem zi {H:Hp} {a b:Addr} (h:b≠a):jg H a b=H b:=by unfold jg; rw [if_neg h]
theorem Qb {H:Hp} {a:Addr}:jg H a a=none:=by unfold jg; rw [if_pos rfl]
def qJ (cz:Prop) (P:Program) (w:World):CXT:=fun outer H s E e s'=>∃ (a C dx:Addr) (H':Hp) (B:Heap),e=.ref a/\s'.os=s.os/\AllBare s'.gens/\Un (frs outer) [] H H' s.heap s'.heap/\HOk P w H' s'.heap/\Fly cz B outer a C dx .none s'.heap /\
 (∀ b o,s.heap.get? b=some o->b∉frs outer->∃ o',B.get? b=some o')/\(∀ b u,H' b=some u->∃ o',B.get? b=some o')/\H' a=none/\E (.ref C) (some dx) H'
abbrev CXR (P:Program) (w:World):CXT:=qJ True P w
theorem qdz {fs:List Addr} {H H':Hp} {h h1 h2 B:Heap} (u:Un fs [] H H' h h1) (s1:B.StaysIn h1) (s2:B.StaysIn h2) (hB:∀ b o,h.get? b=some o->b∉fs->∃ o',B.get? b=some o') (up:h1.UpToSlots h2)
  (hf:∀ b∈fs,∀ o,h1.get? b=some o->∀ vs,o.data≠.fields vs):Un fs [] H H' h h2 where
 keep:=fun b o q n hb hx=>by
  obtain ⟨o',e⟩:=hB b o q hb
  have e1:=s1 b o' e
  rw [u.keep b o q n hb hx] at e1
  cases e1
  exact s2 b _ e
 slot:=fun b o q n hb hx=>by
  obtain ⟨sl,e⟩:=u.slot b o q n hb hx
  obtain ⟨sl2,e2⟩:=up b _ e (hf b hb _ e)
  exact ⟨sl2,e2⟩
 free:=u.free
 there:=fun b o q hx=>by
  by_cases hb:b∈fs
  ·obtain ⟨o1,e1⟩:=u.there b o q hx
   obtain ⟨sl2,e2⟩:=up b _ e1 (hf b hb _ e1)
   exact ⟨_,e2⟩
  ·obtain ⟨o',e⟩:=hB b o q hb
   exact ⟨o',s2 b o' e⟩
 tups:=u.tups
 frzs:=u.frzs
 tbls:=u.tbls
theorem J9 {P:Program} {w:World} {H:Hp} {h1 h2 B:Heap} (x:HOk P w H h1) (s1:B.StaysIn h1) (s2:B.StaysIn h2) (hB:∀ b u,H b=some u->∃ o',B.get? b=some o'):HOk P w H h2:=fun a o e=>
 (x a o e).stay (fun c u hc q=>by
  have hc':∃ o',B.get? c=some o':=by
   rcases hc with rfl | hc
   ·exact hB _ _ e
   ·exact hB _ _ hc
  obtain ⟨o',eo⟩:=hc'
  have:=s1 c o' eo
  rw [q] at this
  cases this
  exact s2 c _ eo) (fun _ q=>q) fun _ _ q=>q
theorem jA {h base:Heap} {l:List Env} (hl:h.FunFrames base l):∀ b∈frs l,∀ o,h.get? b=some o->∀ vs,o.data≠.fields vs:=fun b hb o q=>by
 obtain ⟨_,o',ho',hn⟩:=hl.mem hb
 rw [q] at ho'
 cases ho'
 exact hn
section
variable {P:Program} {w:World} {K:PySem.W.Frag} {mg:Str->Option Value} {base:Heap} {N:List Str} {qual:Str} {scope:Scope} {f:Addr} {cd:Value} {A:Around} {outer:List Env} {s:Shared} {H:Hp} {E:XK}
theorem jB {cz:Prop}:zT (qJ cz P w) (qF (qJ cz P w) P w K mg base N qual scope f cd A outer s H E) E:=by
 intro pins σ H1 s1 e s2 I hx
 obtain ⟨a,C,dx,H',B,rfl,hos,hb,un,hok,fly,c1,c2,hn,hE⟩:=hx
 have J:=I.call' (ch:=[]) hos un hok hb (fun b z=>absurd z (by simp))
 have c1':∀ b o,s.heap.get? b=some o->b∉frs outer->∃ o',B.get? b=some o':=fun b o q hb=>by
  obtain ⟨o1,q1⟩:=I.base.there b o q (by simp [qF])
  refine c1 b o1 q1 fun hm=>?_
  rcases List.mem_cons.mp (I.stkSub b hm) with z | z
  ·have lt:=Heap.lt_size q
   rw [z] at lt
   exact absurd lt (Nat.lt_irrefl _)
  ·exact hb z
 show wpAny (model P w) (A.deeper (envOfC qual scope s.heap.objs.size f cd)) (leaving (envOfC qual scope s.heap.objs.size f cd) (.ref a)) (fun _ s''=>qJ cz P w outer H s E (.ref a) s'') (fun e' s''=>qJ cz P w outer H s E e' s'') s2
 refine LX.qfH (env:=envOfC qual scope s.heap.objs.size f cd) (outer:=outer) (L:=s.heap.objs.size) J.ok.frames rfl fly fun h' fly' up=>?_
 have u1:Un (frs outer) [] H H' s.heap s2.heap:=J.base
 exact ⟨a,C,dx,H',B,rfl,J.os,J.bare,qdz u1 fly.st fly'.st c1' up (jA (fly.ff.2.2)),J9 J.hok fly.st fly'.st c2,fly',c1',c2,hn,hE⟩
theorem ZS {h b B:Heap}:∀ {l:List Env},h.FunFrames b l->(∀ a∈frs l,B.get? a=none)->h.FunFrames B l
 | [],_,_=>trivial
 | env::r,⟨hk,⟨L,o,hf,hn,ho,hd⟩,hr⟩,hB=>⟨hk,⟨L,o,hf,hB L (by unfold frs; rw [List.filterMap_cons,hf]; exact List.mem_cons_self),ho,hd⟩,ZS hr fun a ha=>hB a (by
  unfold frs
  rw [List.filterMap_cons,hf]
  exact List.mem_cons_of_mem _ ha)⟩
theorem qi1 {cz:Prop} {pins:List (Addr × Obj)} {σ : St} {H1:Hp} {s1:Shared} {a C dx:Addr} {vs:Array Value}
  (I:Inv (qF (qJ cz P w) P w K mg base N qual scope f cd A outer s H E) pins σ H1 s1) (ha:H1 a=some (XOb a C vs (some dx))) (hv:vs[1]? = some .none) (hz:cz->vs[2]? = some .none) (hnew:s.heap.objs.size<=a) (hE:E (.ref C) (some dx) (jg H1 a)) :
  (qF (qJ cz P w) P w K mg base N qual scope f cd A outer s H E).xe (.ref a) s1:=by
 obtain ⟨sl,hob⟩:=I.hok.xob ha
 have nfr:∀ b∈frs (qF (qJ cz P w) P w K mg base N qual scope f cd A outer s H E).stack,b≠a:=fun b hb z=>by
  have:=I.stkFree b hb
  rw [z,ha] at this
  cases this
 let l:=a::frs (qF (qJ cz P w) P w K mg base N qual scope f cd A outer s H E).stack
 let B:=PySem.W.hideAll s1.heap l
 have stB:B.StaysIn s1.heap:=fun b o q=>PySem.W.of_hideAll l q
 have inB:∀ b o,s1.heap.get? b=some o->b≠a->b∉frs (qF (qJ cz P w) P w K mg base N qual scope f cd A outer s H E).stack->B.get? b=some o:=fun b o q h1 h2=>PySem.W.hideAll_get l q (by
  intro z
  rcases List.mem_cons.mp z with z | z
  ·exact h1 z
  ·exact h2 z)
 have c1':∀ b o,s.heap.get? b=some o->b∉frs outer->∃ o',B.get? b=some o':=fun b o q hb=>by
  obtain ⟨o1,q1⟩:=I.base.there b o q (by simp [qF])
  refine ⟨o1,inB b o1 q1 (Nat.ne_of_lt (Nat.lt_of_lt_of_le (Heap.lt_size q) hnew)) fun hm=>?_⟩
  rcases List.mem_cons.mp (I.stkSub b hm) with z | z
  ·have lt:=Heap.lt_size q
   rw [z] at lt
   exact absurd lt (Nat.lt_irrefl _)
  ·exact hb z
 have c2:∀ b u,jg H1 a b=some u->∃ o',B.get? b=some o':=fun b u q=>by
  have hba:b≠a:=fun z=>by subst z; rw [Qb] at q; cases q
  rw [zi hba] at q
  obtain ⟨o,ho⟩:∃ o,s1.heap.get? b=some o:=by
   have lt:=I.hok.lt q
   cases hq:s1.heap.get? b with
   | some o=>exact ⟨o,rfl⟩
   | none=>
    exfalso
    have x:=I.hok b u q
    cases u with
    | lst xs=>obtain ⟨_,_,_,_,e⟩:=x; rw [hq] at e; cases e
    | tup xs=>obtain ⟨_,_,_,ob,e,_⟩:=x; rw [hq] at e; cases e
    | dK kvs=>obtain ⟨_,_,_,_,o,_,_,e,_⟩:=x; rw [hq] at e; cases e
    | dT kvs=>obtain ⟨_,_,_,_,o,_,_,e,_⟩:=x; rw [hq] at e; cases e
    | set S n=>obtain ⟨o,_,_,_,e,_⟩:=x; rw [hq] at e; cases e
    | ins C dx fs=>obtain ⟨_,_,_,e,_⟩:=x; rw [hq] at e; cases e
    | own y=>obtain ⟨_,e⟩:=x; rw [hq] at e; cases e
    | xd fs=>obtain ⟨_,⟨_,_,_,e,_⟩,_⟩:=x; rw [hq] at e; cases e
    | rng lo hi=>obtain ⟨_,_,_,e⟩:=x; rw [hq] at e; cases e
    | frz ob u=>obtain ⟨e,_⟩:=x; rw [hq] at e; cases e
    | tbl ps=>have e:s1.heap.get? b=some _:=x; rw [hq] at e; cases e
    | met f y=>have e:s1.heap.get? b=some _:=x; rw [hq] at e; cases e
    | ext φ=>obtain ⟨_,⟨_,e⟩,_⟩:=x; rw [hq] at e; cases e
  exact ⟨o,inB b o ho hba fun hm=>by rw [I.stkFree b hm] at q; cases q⟩
 have ok1:HOk P w (jg H1 a) s1.heap:=fun b u q=>by
  have hba:b≠a:=fun z=>by subst z; rw [Qb] at q; cases q
  rw [zi hba] at q
  refine (I.hok b u q).stay (fun c v _ z=>z) (fun c z=>?_) fun c xs z=>?_
  ·rw [zi (fun y=>by subst y; rw [ha] at z; cases z)]; exact z
  ·rw [zi (fun y=>by subst y; rw [ha] at z; cases z)]; exact z
 have un1:Un (frs outer) [] H (jg H1 a) s.heap s1.heap:=by
  have u0:Un (frs outer) [] H H1 s.heap s1.heap:=I.base
  refine ⟨u0.keep,u0.slot,fun b o q n hx=>?_,u0.there,fun b xs q=>?_,fun b o u q=>?_,fun b ps q=>?_⟩
  ·rw [zi (Nat.ne_of_lt (Nat.lt_of_lt_of_le (Heap.lt_size q) hnew))]; exact u0.free b o q n hx
  ·have z:=u0.tups b xs q
   rw [zi (fun y=>by subst y; rw [ha] at z; cases z)]; exact z
  ·have z:=u0.frzs b o u q
   rw [zi (fun y=>by subst y; rw [ha] at z; cases z)]; exact z
  ·obtain ⟨m,z⟩:=u0.tbls b ps q
   exact ⟨m,by rw [zi (fun y=>by subst y; rw [ha] at z; cases z)]; exact z⟩
 have noB:B.get? a=none:=PySem.W.hideAll_none l List.mem_cons_self
 have ffB:s1.heap.FunFrames B (envOfC qual scope s.heap.objs.size f cd::outer):=ZS I.stack fun b hb=>PySem.W.hideAll_none l (List.mem_cons_of_mem _ hb)
 show wpAny (model P w) (A.deeper (envOfC qual scope s.heap.objs.size f cd)) (leaving (envOfC qual scope s.heap.objs.size f cd) (.ref a)) (fun _ s''=>qJ cz P w outer H s E (.ref a) s'') (fun e' s''=>qJ cz P w outer H s E e' s'') s1
 refine LX.qeO (env:=envOfC qual scope s.heap.objs.size f cd) (outer:=outer) (L:=s.heap.objs.size) (C:=C) (dx:=dx) (vs:=vs) I.ok.frames ffB rfl hob rfl rfl rfl hv hz stB noB fun h' fly' up=>?_
 exact ⟨a,C,dx,jg H1 a,B,rfl,I.os,I.bare,qdz un1 stB fly'.st c1' up (jA ffB.2.2),J9 ok1 stB fly'.st c2,fly',c1',c2,Qb,hE⟩
end
end L2
end
section
namespace L2
open PySem PySem.Spec PyProof.Rows
open LX (Fly Under XC jJ)
def QZ (K:PySem.W.Frag) (C:Addr):Bool:=match K.lookup C with
 | some ⟨.type ty,_,.cls cd,sl⟩=>ty == "type" && jJ cd.mro&&cd.hasDict && !cd.hasDel&&cd.mro.head? == some (.ref C)&&(match sl.toList with
  | [_,_,_,_,k4,_]=>k4 == some (.builtin "Exception.__new__")
  | _=>false)
 | _=>false
theorem Jj:∀ {l:List Value},jJ l=true->Under l
 | [.type a,.type b,.type c],e=>by
  simp only [jJ,Bool.and_eq_true,beq_iff_eq] at e
  obtain ⟨⟨rfl,rfl⟩,rfl⟩:=e
  exact ⟨by decide,by decide,by decide,by decide⟩
 | .ref c::r,e=>by
  have u:=Jj (l:=r) e
  exact ⟨by rw [List.contains_cons,u.b1]; exact Bool.or_true _,by rw [List.contains_cons,u.b2]; exact Bool.or_true _,by rw [List.contains_cons,u.b3]; rfl,by rw [List.contains_cons,u.b4]; rfl⟩
structure zV (K:PySem.W.Frag) (C:Addr):Prop where
 obj:QZ K C=true
 sa:PySem.W.findIn K (.ref C) "__setattr__" = some (some (.builtin "object.__setattr__"))
 ga:PySem.W.findIn K (.ref C) "__getattribute__" = some (some (.builtin "BaseException.__getattribute__"))
 gh:PySem.W.findIn K (.ref C) "__getattr__" = some none
theorem zV.out {K:PySem.W.Frag} {C:Addr} (c:zV K C):∃ (cd:ClassData) (bm:List Value),PySem.W.clsIn K C=some cd/\jJ cd.mro=true/\cd.hasDict=true/\cd.mro=.ref C::bm/\jJ bm=true/\∃ nm q N bs hdct sn sub ab col dd k0 k1 k2 k3 k5,
  K.lookup C=some (excClassObj nm q C N bs bm hdct sn sub ab col dd k0 k1 k2 k3 k5 "Exception.__new__"):=by
 have e:=c.obj
 unfold QZ at e
 split at e
 ·rename_i ty od cd sl ho
  simp only [Bool.and_eq_true,Bool.not_eq_true',beq_iff_eq] at e
  obtain ⟨⟨⟨⟨⟨e1,e2⟩,e3⟩,e4⟩,e5⟩,e6⟩:=e
  subst e1
  obtain ⟨sl⟩:=sl
  dsimp only at e6
  split at e6
  ·rename_i k0 k1 k2 k3 k4 k5
   have e6:=beq_iff_eq.mp e6
   subst e6
   obtain ⟨nm,bs,mro,ns,q,hd,sn,sub,ab,col,del⟩:=cd
   cases mro with
   | nil=>cases e5
   | cons m bm=>
    have e5:m=.ref C:=Option.some.inj e5
    subst e5
    have e4:del=false:=e4
    subst e4
    exact ⟨_,bm,by unfold PySem.W.clsIn; rw [ho],e2,e3,rfl,e2,nm,q,ns,bs,hd,sn,sub,ab,col,od,k0,k1,k2,k3,k5,ho⟩
  ·cases e6
 ·cases e
section
variable {X:Cx} {pins:List (Addr × Obj)} {σ : St} {H:Hp} {s:Shared} {e C:Addr} {f:Str} {A:Around} {E:Value->Shared->Prop} {vs:Array Value}
theorem qhU {y:V} {u:Value} {Q:Unit->Shared->Prop} (I:Inv X pins σ H s) (he:H e=some (XOb e C vs none)) (c:zV X.K C) (n:qp X.K C f) (ry:RelV y u)
  (h:∀ dx s',H dx=none->dx≠e->Inv X pins σ (upd (upd H dx (XDi dx [(f,y)])) e (XOb e C vs (some dx))) s'->Q () s'):wpAny (model X.prog X.w) A (setAttr (.ref e) f u) Q E s:=by
 obtain ⟨cd,bm,hc,hm,hd,_⟩:=c.out
 obtain ⟨sl,ho⟩:=I.hok.xob he
 refine LX.qjy I.kIn ho hc hm hd c.sa n fun h' tk q1 q2 q3=>h s.heap.objs.size _ (I.hok.fresh (Nat.le_refl _)) (Nat.ne_of_gt (Heap.lt_size ho)) ?_
 have hn:H s.heap.objs.size=none:=I.hok.fresh (Nat.le_refl _)
 have nde:s.heap.objs.size≠e:=Nat.ne_of_gt (Heap.lt_size ho)
 have e1:zq X.prog X.w (upd (upd H s.heap.objs.size (XDi s.heap.objs.size [(f,y)])) e (XOb e C vs (some s.heap.objs.size))) h' s.heap.objs.size (XDi s.heap.objs.size [(f,y)]):=by
  refine qgI q2 (fun g=>?_) fun g hg=>?_
  ·show jq (([(f,y)]:List (Str × V)).lookup g) (if g=f then some u else none)
   rw [List.lookup_cons]
   by_cases z:g=f
   ·subst z; rw [if_pos rfl,beq_self_eq_true]; exact ry
   ·rw [if_neg z,beq_eq_false_iff_ne.mpr z]; exact True.intro
  ·by_cases z:g=f
   ·subst z; exact List.mem_cons_self
   ·exact absurd (if_neg z) hg
 have un:Un X.fs [] H (upd (upd H s.heap.objs.size (XDi s.heap.objs.size [(f,y)])) e (XOb e C vs (some s.heap.objs.size))) s.heap h':=by
  have lt:∀ b o,s.heap.get? b=some o->b≠s.heap.objs.size:=fun b o q=>Nat.ne_of_lt (Heap.lt_size q)
  have ne:∀ b,H b=none->b≠e:=fun b q z=>by subst z; rw [he] at q; cases q
  have nx:∀ b u,H b=some u->(∀ φ,u≠.ext φ)->b≠e:=fun b u q hu z=>by subst z; rw [he] at q; cases q; exact hu _ rfl
  refine ⟨fun b o q n1 _ _=>q3 b o (ne b n1) q,fun b o q n1 _ _=>⟨o.slots,q3 b o (ne b n1) q⟩,fun b o q n1 _=>?_,fun b o q _=>?_,fun b xs q=>?_,fun b o w' q=>?_,fun b ps q=>⟨#[],?_⟩⟩
  ·rw [qa (ne b n1),qa (lt b o q)]; exact n1
  ·by_cases z:b=e
   ·subst z; exact ⟨_,q1⟩
   ·exact ⟨o,q3 b o z q⟩
  ·rw [qa (nx b _ q (fun φ z=>by cases z)),qa (qg q hn)]; exact q
  ·rw [qa (nx b _ q (fun φ z=>by cases z)),qa (qg q hn)]; exact q
  ·rw [qa (nx b _ q (fun φ z=>by cases z)),qa (qg q hn),q]; simp
 refine I.un un fun b w' q=>?_
 by_cases z:b=e
 ·subst z
  rw [qd] at q
  cases q
  exact Z0 q1
 ·rw [qa z] at q
  by_cases z2:b=s.heap.objs.size
  ·subst z2
   rw [qd] at q
   cases q
   exact e1
  ·rw [qa z2] at q
   refine (I.hok b w' q).stay (fun c u' hc' r=>q3 c u' ?_ r) (fun c r=>?_) fun c xs r=>?_
   ·rcases hc' with rfl | hc'
    ·exact z
    ·intro y'; subst y'; rw [he] at hc'; cases hc'
   ·rw [qa (fun y'=>by subst y'; rw [he] at r; cases r),qa (qg r hn)]; exact r
   ·rw [qa (fun y'=>by subst y'; rw [he] at r; cases r),qa (qg r hn)]; exact r
theorem qhV {y:V} {u:Value} {dx:Addr} {fs:List (Str × V)} {Q:Unit->Shared->Prop} (I:Inv X pins σ H s) (he:H e=some (XOb e C vs (some dx))) (hdx:H dx=some (XDi dx fs)) (hl:fs.length<1000) (c:zV X.K C) (n:qp X.K C f) (ry:RelV y u)
  (h:∀ s',Inv X pins σ (upd H dx (XDi dx (qL f y fs))) s'->Q () s'):wpAny (model X.prog X.w) A (setAttr (.ref e) f u) Q E s:=by
 obtain ⟨cd,bm,hc,hm,hd,_⟩:=c.out
 obtain ⟨sl,ho⟩:=I.hok.xob he
 obtain ⟨mA,hn,r,wi⟩:=I.hok.xdi hdx
 refine LX.qjz I.kIn ho hn wi (by rw [List.length_map]; omega) hc hm hd c.sa n fun h' tk q1 q2=>h _ ?_
 refine I.write (x:=dx) (e:=dx) (by rw [hdx]; exact True.intro) (.inl rfl) (fun b o hb q=>(q2.2 b hb).trans q) (let ⟨o,_,_,z,_⟩:=q1; ⟨o,z⟩) ?_
 refine qgI q1 (fun g=>?_) fun g hg=>?_
 ·show jq ((qL f y fs).lookup g) (if g=f then some u else mA g)
  rw [ZN]
  by_cases z:g=f
  ·rw [if_pos z,if_pos z]; exact ry
  ·rw [if_neg z,if_neg z]; exact r g
 ·by_cases z:g=f
  ·rw [z]; exact (Q8 f y fs).1
  ·refine (Q8 f y fs).2 g (wi g fun q=>hg ?_)
   show (if g=f then some u else mA g)=none
   rw [if_neg z]; exact q
theorem qi2 {b:Bool} {v:V} {dx:Addr} {fs:List (Str × V)} {Q:Value->Shared->Prop} (I:Inv X pins σ H s) (he:H e=some (XOb e C vs (some dx))) (hdx:H dx=some (XDi dx fs)) (c:zV X.K C) (n:qp X.K C f) (l:fs.lookup f=some v)
  (h:∀ u s',Inv X pins σ H s'->RelV v u->Q u s'):wpAny (model X.prog X.w) A (getAttr (.ref e) f b) Q E s:=by
 obtain ⟨cd,bm,hc,hm,hd,em,hbm,_⟩:=c.out
 obtain ⟨sl,ho⟩:=I.hok.xob he
 obtain ⟨mA,hn,r,wi⟩:=I.hok.xdi hdx
 obtain ⟨u,hu,ru⟩:=jq.some_of (v:=v) (o:=mA f) (by rw [<- l]; exact r f)
 obtain ⟨od,hod,hlook⟩:=qcI hn
 have J:PySem.W.InstAt s.heap e ⟨.ref C,some dx,.fields vs,sl⟩ C (some od):=⟨ho,rfl,rfl,hod⟩
 refine LX.qkt I.kIn J c.ga c.gh ?_ (PySem.W.findObj_own (by show (PySem.W.clsIn X.K C).any _=true; rw [hc]; exact hd) n rfl (by rw [hlook,hu])) (qcJ ru) (h u _ (I.tok _) ru)
 unfold PySem.W.mroIn
 rw [hc,Option.bind_some,if_neg (by rw [LX.qfk hm]; decide),(Jj hm).b2]
end
def qj0 (K:PySem.W.Frag) (ta tv:TE) (f:Str):TS:=fun D σ H=>tv σ H fun y H1=>ta σ H1 fun x H2=>∃ e C vs,x=.ref e/\H2 e=some (XOb e C vs none)/\zV K C/\qp K C f /\
 ∀ dx,H2 dx=none->dx≠e->D.nx σ (upd (upd H2 dx (XDi dx [(f,y)])) e (XOb e C vs (some dx)))
def qj1 (K:PySem.W.Frag) (ta tv:TE) (f:Str):TS:=fun D σ H=>tv σ H fun y H1=>ta σ H1 fun x H2=>∃ e C vs dx fs,x=.ref e/\H2 e=some (XOb e C vs (some dx))/\H2 dx=some (XDi dx fs)/\fs.length<1000/\zV K C/\qp K C f /\
 D.nx σ (upd H2 dx (XDi dx (qL f y fs)))
def qfS (K:PySem.W.Frag) (ta:TE) (f:Str):TE:=fun σ H Q=>ta σ H fun x H1=>∃ e C vs dx fs v,x=.ref e/\H1 e=some (XOb e C vs (some dx))/\H1 dx=some (XDi dx fs)/\zV K C/\qp K C f/\fs.lookup f=some v/\Q v H1
section
variable {X:Cx} {o e value:Expr} {f:Str} {pos pos':Pos} {ta tv:TE}
theorem qd0 (ha:PE X o ta) (hv:PE X value tv) (hs:swapsWith value (some (.Attribute o f pos')) pos.line X.env=pure false):PS X (.Assign [.Attribute o f pos'] value pos) (qj0 X.K ta tv f):=by
 intro pins s σ H D I h
 refine plainObj_wpAny_Assign_Attribute (thn (hv pins s σ H _ I h) fun u s1 ⟨y,H1,I1,ry,q⟩=>thn (ha pins s1 σ H1 _ I1 q) fun ov s2 ⟨x,H2,I2,rx,a,C,vs,ex,ea,c,n,q2⟩=>?_) hs
 subst ex
 obtain rfl:ov=Value.ref a:=rx
 exact qhU I2 ea c n ry fun dx s3 z1 z2 I3=>⟨σ,_,I3,q2 dx z1 z2⟩
theorem qd1 (ha:PE X o ta) (hv:PE X value tv) (hs:swapsWith value (some (.Attribute o f pos')) pos.line X.env=pure false):PS X (.Assign [.Attribute o f pos'] value pos) (qj1 X.K ta tv f):=by
 intro pins s σ H D I h
 refine plainObj_wpAny_Assign_Attribute (thn (hv pins s σ H _ I h) fun u s1 ⟨y,H1,I1,ry,q⟩=>thn (ha pins s1 σ H1 _ I1 q) fun ov s2 ⟨x,H2,I2,rx,a,C,vs,dx,fs,ex,ea,ed,hl,c,n,q2⟩=>?_) hs
 subst ex
 obtain rfl:ov=Value.ref a:=rx
 exact qhV I2 ea ed hl c n ry fun s3 I3=>⟨σ,_,I3,q2⟩
theorem qb9 (he:PE X e ta) (hb:attributeBase e f X.env (eval e X.env)=eval e X.env):PE X (.Attribute e f pos) (qfS X.K ta f):=by
 intro pins s σ H Q I h
 refine qfn hb (thn (he pins s σ H _ I h) fun u s1 ⟨x,H1,I1,rx,a,C,vs,dx,fs,v,ex,ea,ed,c,n,l,q⟩=>?_)
 subst ex
 obtain rfl:u=Value.ref a:=rx
 exact qi2 I1 ea ed c n l fun u' s2 I2 ru=>⟨v,H1,I2,ru,q⟩
end
end L2
end
section
namespace L2
open PySem PySem.Spec PyProof.Rows
open LX (Fly Under XC jJ)
structure qdA (K:PySem.W.Frag) (C:Addr) (m:Str) (f:Addr):Prop where
 ga:PySem.W.specialIn K (.ref C) "__getattribute__" = some (some (.builtin "type.__getattribute__"))
 rd:PySem.W.readsIn K C (.type "type")=true
 at_:PySem.W.findCls K (.ref C) (.type "type") m=some (.val (.ref f))
 kp:PySem.W.keepIn K (.ref f)=true
section
variable {X:Cx} {CX:CXT} {k:Nat} {f C:Addr} {fd:FuncData} {ps:List Str} {sp:Sp} {dvs:List V} {ds:List Value} {E:XK} {x m:Str} {p pos apos:Pos} {e:Expr} {es:List Expr} {t:TA}
theorem qfT {pl:Sem Bool} (hg:Gl X x) (hm:X.mg x=some (.ref C)) (c:qdA X.K C m f) (F:qB X.prog X.w X.K X.mg X.base CX k f fd ps sp) (hr:qE k X.A) (hb:Binds X.K fd ps ds) (hd:qv dvs ds) (hx:zT CX X E) (ha:PA X (e::es) t)
  (hdb:(x == ("__debug__" : Str))=false:=by decide)
  (hst:starEach (e::es) X.env=(false,eval e X.env)::starEach es X.env:=by rfl) (hpl:(backTo pos (starEach es X.env)).any (·.1)=false:=by rfl)
  (ht:eval (.Call (.Attribute (.Name x p) m apos) (e::es) [] pos) X.env=(do
   let ov <- eval (.Name x p) X.env
   standAt apos.atName
   let (f,first) <- holding [ov] (getMethod ov m pl)
   callWith pos f first (backTo pos (starEach (e::es) X.env)) (backToKw pos (keywordEach [] X.env))):=by rfl) :
  PE X (.Call (.Attribute (.Name x p) m apos) (e::es) [] pos) (Qk sp dvs E t):=by
 intro pins s σ H Q I h
 refine PySem.W.methodCall_KW (pl:=pl) (jW I hg hm ?_ hdb) ht
 refine PySem.W.method_cls I.kIn c.ga (PySem.W.cls_value I.kIn c.rd c.at_ rfl ?_)
 refine PySem.W.callWith_K (first:=[]) (h₀:=X.base) I.ok.mod.kin c.kp (thn (ha pos pins _ σ H _ (I.tok _) h) fun us s2 ⟨vs,H2,I2,r,q2⟩=>⟨I2.kIn,?_⟩) hst hpl
 exact qbz F hr hb hd hx I2 r q2
end
abbrev xv (t:Addr):Array Value:=#[.ref t,.none,.none,.none,.bool false,.none]
def qaa (C:Addr) (sp:Sp) (E:XK) (t:TA):TS:=fun _ σ H=>t σ H fun vs H1=>vs.length<=1000/\∀ a ta,H1 a=none->sp (.ref a::vs) (upd H1 a (XOb a C (xv ta) none)) (fun v H2=>v=.non/\∃ dx,H2 a=some (XOb a C (xv ta) (some dx))/\E (.ref C) (some dx) (jg H2 a)) E0
structure XMk (K:PySem.W.Frag) (C f:Addr):Prop where
 cls:zV K C
 init:PySem.W.findIn K (.ref C) "__init__" = some (some (.ref f))
 fn:PySem.W.isFn K (.ref f)=true
 kp:PySem.W.keepIn K (.ref C)=true
theorem zV.xc {K:PySem.W.Frag} {C:Addr} (c:zV K C):∃ nm q N bs bm hdct sn sub ab col dd k0 k1 k2 k3 k5,Under bm/\jJ bm=true/\∀ h,K.In h->XC h nm q C N bs bm hdct sn sub ab col dd k0 k1 k2 k3 k5:=by
 obtain ⟨cd,bm,_,_,_,_,hbm,nm,q,N,bs,hdct,sn,sub,ab,col,dd,k0,k1,k2,k3,k5,lk⟩:=c.out
 exact ⟨nm,q,N,bs,bm,hdct,sn,sub,ab,col,dd,k0,k1,k2,k3,k5,Jj hbm,hbm,fun h X=>X _ _ lk⟩
theorem qiB {K:PySem.W.Frag} {f:Addr} (h:PySem.W.isFn K (.ref f)=true):∃ o,K.lookup f=some o/\o.cls=.type "function":=by
 have e:PySem.W.typeIn K (.ref f)=some (.type "function"):=beq_iff_eq.mp h
 obtain ⟨o,ho,hc⟩:=Option.map_eq_some_iff.mp e
 exact ⟨o,ho,hc⟩
section
variable {P:Program} {w:World} {K:PySem.W.Frag} {mg:Str->Option Value} {base:Heap} {N:List Str} {qual:Str} {scope:Scope} {f:Addr} {cd:Value} {A:Around} {outer:List Env} {s0:Shared} {H0:Hp} {E:XK}
variable {k:Nat} {fI C:Addr} {fd:FuncData} {ps:List Str} {sp:Sp} {x:Str} {np cpos pos:Pos} {es:List Expr} {t:TA}
theorem qcP {cz:Prop} {pins:List (Addr × Obj)} {σ : St} {H:Hp} {s:Shared} {us:List Value} {vs:List V}
  (M:XMk K C fI) (F:qB P w K mg base CX0 k fI fd ps sp) (hr:qE (k+1) (qF (qJ cz P w) P w K mg base N qual scope f cd A outer s0 H0 E).A) (hb:Binds K fd ps [])
  (I:Inv (qF (qJ cz P w) P w K mg base N qual scope f cd A outer s0 H0 E) pins σ H s) (r:qv vs us) (hl:vs.length<=1000)
  (h:∀ a ta,H a=none->sp (.ref a::vs) (upd H a (XOb a C (xv ta) none)) (fun v H2=>v=.non/\∃ dx,H2 a=some (XOb a C (xv ta) (some dx))/\E (.ref C) (some dx) (jg H2 a)) E0) :
  wpAny (model P w) (qF (qJ cz P w) P w K mg base N qual scope f cd A outer s0 H0 E).A (call (.ref C) us)
   (fun v s1=>∃ (a ta dx:Addr) (H2:Hp),v=.ref a/\Inv (qF (qJ cz P w) P w K mg base N qual scope f cd A outer s0 H0 E) pins σ H2 s1/\s0.heap.objs.size<=a/\H2 a=some (XOb a C (xv ta) (some dx))/\E (.ref C) (some dx) (jg H2 a))
   (qF (qJ cz P w) P w K mg base N qual scope f cd A outer s0 H0 E).xe s:=by
 obtain ⟨nm,q,N',bs,bm,hdct,sn,sub,ab,col,dd,k0,k1,k2,k3,k5,U,_,hC⟩:=M.cls.xc
 obtain ⟨oI,hoI,hcI⟩:=qiB M.fn
 have KX:K.In s.heap:=I.kIn
 obtain ⟨hh,g,d,tk,os⟩:=s
 refine LX.x_call U (hC _ KX) (PySem.W.looks_findIn KX M.init) (KX _ _ hoI) hcI (by rw [<- r.length,sizeLine_eq]; omega) fun h' a hsz hm=>?_
 obtain ⟨ta,ht,_,_⟩:=hm.there
 have hq:=h a ta (I.hok.fresh hsz)
 have I2:Inv (qF (qJ cz P w) P w K mg base N qual scope f cd A outer s0 H0 E) pins σ (upd H a (XOb a C (xv ta) none)) ⟨h',g,d,tk,os⟩:=I.laid (t':=tk) hm.keeps hsz (Z0 ht)
 have r2:qv (V.ref a::vs) (Value.ref a::us):=.cons rfl r
 have hl2:(Value.ref a::us++[]).length=ps.length:=by
  rw [List.append_nil,<- r2.length]
  exact F.len _ _ _ _ hq
 refine wpAny_call (codeAny_mono (F.run _ _ _ _ ⟨Value.ref a::us,[]⟩ (Value.ref a::us) _ _ _ (hr.make C us []) (I2.env0.make C us []) ?_ r2 hq) fun res s' hq'=>?_)
 ·have:=hb ⟨h',g,d,tk,os⟩ (Value.ref a::us) I2.kIn hl2
  rw [List.append_nil] at this
  exact this
 ·cases res with
  | error e=>exact False.elim hq'
  | ok fl=>
   cases fl with
   | ret u=>
    obtain ⟨v,H',I3,rv,ev,dx,z1,z2⟩:=I2.after hq'
    subst ev
    exact ⟨rv,a,ta,dx,H',rfl,I3,Nat.le_trans I.sz hsz,z1,z2⟩
   | next=>exact False.elim hq'
   | brk=>exact False.elim hq'
   | cont=>exact False.elim hq'
theorem qcQ {cz:Prop} {pins:List (Addr × Obj)} {σ : St} {s:Shared} {xe:Sem Value} {D:Flow->Shared->Prop} {env:Env} (M:XMk K C fI) (hh:(qF (qJ cz P w) P w K mg base N qual scope f cd A outer s0 H0 E).A.handled=none)
  (h:wpAny (model P w) (qF (qJ cz P w) P w K mg base N qual scope f cd A outer s0 H0 E).A xe
   (fun v s1=>∃ (a ta dx:Addr) (H2:Hp),v=.ref a/\Inv (qF (qJ cz P w) P w K mg base N qual scope f cd A outer s0 H0 E) pins σ H2 s1/\s0.heap.objs.size<=a/\H2 a=some (XOb a C (xv ta) (some dx))/\E (.ref C) (some dx) (jg H2 a))
   (qF (qJ cz P w) P w K mg base N qual scope f cd A outer s0 H0 E).xe s) :
  wpAny (model P w) (qF (qJ cz P w) P w K mg base N qual scope f cd A outer s0 H0 E).A (raiseStmt env (some xe) none) D (qF (qJ cz P w) P w K mg base N qual scope f cd A outer s0 H0 E).xe s:=by
 obtain ⟨nm,q,N',bs,bm,hdct,sn,sub,ab,col,dd,k0,k1,k2,k3,k5,U,_,hC⟩:=M.cls.xc
 refine LX.x_raise (C:=C) (nm:=nm) (q:=q) (N:=N') (bs:=bs) (hdct:=hdct) (sn:=sn) (sub:=sub) (ab:=ab) (col:=col) (dd:=dd) (k0:=k0) (k1:=k1) (k2:=k2) (k3:=k3) (k5:=k5) U hh (thn h fun v s1 ⟨a,ta,dx,H2,ev,I2,hsz,z1,z2⟩=>?_)
 obtain ⟨sl,ho⟩:=I2.hok.xob z1
 exact ⟨a,ta,some dx,sl,ev,hC _ I2.kIn,ho,qi1 I2 z1 rfl (fun _=>rfl) hsz z2⟩
theorem qhW {cz:Prop} {e:Expr} (M:XMk K C fI) (F:qB P w K mg base CX0 k fI fd ps sp) (hr:qE (k+1) (qF (qJ cz P w) P w K mg base N qual scope f cd A outer s0 H0 E).A) (hb:Binds K fd ps [])
  (hg:Gl (qF (qJ cz P w) P w K mg base N qual scope f cd A outer s0 H0 E) x) (hm:mg x=some (.ref C)) (ha:PA (qF (qJ cz P w) P w K mg base N qual scope f cd A outer s0 H0 E) (e::es) t)
  (hdb:(x == ("__debug__" : Str))=false:=by decide)
  (he:starEach (e::es) (qF (qJ cz P w) P w K mg base N qual scope f cd A outer s0 H0 E).env=(false,eval e (qF (qJ cz P w) P w K mg base N qual scope f cd A outer s0 H0 E).env)::starEach es (qF (qJ cz P w) P w K mg base N qual scope f cd A outer s0 H0 E).env:=by rfl)
  (hpl:(backTo cpos (starEach es (qF (qJ cz P w) P w K mg base N qual scope f cd A outer s0 H0 E).env)).any (·.1)=false:=by rfl) :
  PS (qF (qJ cz P w) P w K mg base N qual scope f cd A outer s0 H0 E) (.Raise (some (.Call (.Name x np) (e::es) [] cpos)) none pos) (qaa C sp E t):=by
 intro pins s σ H D I h
 rw [arm_exec_Raise]
 refine wpAny_bind (wpAny_standAt ?_)
 show wpAny _ _ (raiseStmt _ (some (do let v <- eval (.Call (.Name x np) (e::es) [] cpos) (qF (qJ cz P w) P w K mg base N qual scope f cd A outer s0 H0 E).env; standAt pos; pure v)) none) _ _ _
 refine qcQ (pins:=pins) (σ:=σ) M hr.hd (wpAny_bind (thn ?_ fun v s1 z=>wpAny_bind (wpAny_standAt (wpAny_pure z))))
 refine wpAny_Call_Name_kw (jW I hg hm ?_ hdb)
 refine PySem.W.callWith_K (h₀:=base) I.ok.mod.kin M.kp (thn (ha cpos pins s σ H _ I h) fun us s1 ⟨vs,H1,I1,r,q1,q2⟩=>⟨I1.kIn,?_⟩) he hpl
 exact qcP M F hr hb I1 r q1 q2
theorem qgJ {cz:Prop} (M:XMk K C fI) (F:qB P w K mg base CX0 k fI fd ps sp) (hr:qE (k+1) (qF (qJ cz P w) P w K mg base N qual scope f cd A outer s0 H0 E).A) (hb:Binds K fd ps [])
  (hg:Gl (qF (qJ cz P w) P w K mg base N qual scope f cd A outer s0 H0 E) x) (hm:mg x=some (.ref C)) (hdb:(x == ("__debug__" : Str))=false:=by decide) :
  PS (qF (qJ cz P w) P w K mg base N qual scope f cd A outer s0 H0 E) (.Raise (some (.Call (.Name x np) [] [] cpos)) none pos) (qaa C sp E j7):=by
 intro pins s σ H D I h
 obtain ⟨h1,h2⟩:=h
 rw [arm_exec_Raise]
 refine wpAny_bind (wpAny_standAt ?_)
 show wpAny _ _ (raiseStmt _ (some (do let v <- eval (.Call (.Name x np) [] [] cpos) (qF (qJ cz P w) P w K mg base N qual scope f cd A outer s0 H0 E).env; standAt pos; pure v)) none) _ _ _
 refine qcQ (pins:=pins) (σ:=σ) M hr.hd (wpAny_bind (thn ?_ fun v s1 z=>wpAny_bind (wpAny_standAt (wpAny_pure z))))
 refine wpAny_Call_Name_kw (jW I hg hm ?_ hdb)
 exact PySem.W.callWith_K0 I.kIn M.kp (qcP (us:=[]) M F hr hb I .nil h1 h2)
end
end L2
end
section
namespace L2
open PySem PySem.Spec PyProof.Rows
open LX (Fly Under XC jJ)
abbrev Cx.tr (X:Cx) (E:Value->Shared->Prop) (pn:List (Addr × Obj)):Cx:={ X with xe:=E,pn:=pn }
abbrev Cx.sut (X:Cx) (e:Addr):Cx:={ X with A:=X.A.mark (some (.ref e)),calm:=false,xe:=fun _ _=>False }
section
variable {X:Cx} {pins:List (Addr × Obj)} {σ : St} {H:Hp} {s:Shared}
theorem Cx.Ok.tr (ok:X.Ok) (E:Value->Shared->Prop) (pn:List (Addr × Obj)):(X.tr E pn).Ok :=
 ⟨ok.mod,ok.kind,ok.glob,ok.blt,ok.above,ok.inj,ok.has,ok.cab,ok.hd,ok.frames,ok.stk,ok.exf,ok.bs,ok.bsz,ok.noex,ok.exfs,ok.funs,ok.frf⟩
theorem Cx.Ok.untr {E:Value->Shared->Prop} {pn:List (Addr × Obj)} (ok:(X.tr E pn).Ok):X.Ok :=
 ⟨ok.mod,ok.kind,ok.glob,ok.blt,ok.above,ok.inj,ok.has,ok.cab,ok.hd,ok.frames,ok.stk,ok.exf,ok.bs,ok.bsz,ok.noex,ok.exfs,ok.funs,ok.frf⟩
theorem Inv.tr (I:Inv X pins σ H s) (E:Value->Shared->Prop):Inv (X.tr E (X.pn++pins)) [] σ H s:=⟨I.ok.tr _ _,I.os,I.bare,I.base,I.loc,I.cell,I.free,I.freeC,by rw [List.append_nil]; exact I.pin,I.hok,I.len⟩
theorem Inv.untr {E:Value->Shared->Prop} {more:List (Addr × Obj)} (I:Inv (X.tr E (X.pn++pins)) more σ H s):Inv X pins σ H s:=⟨I.ok.untr,I.os,I.bare,I.base,I.loc,I.cell,I.free,I.freeC,fun p hp=>I.pin p (List.mem_append_left _ hp),I.hok,I.len⟩
theorem SP.untr {E:Value->Shared->Prop} {D:Ends} {f:Flow} {s':Shared} (h:SP (X.tr E (X.pn++pins)) [] D f s'):SP X pins D f s':=by
 cases f with
 | next=>obtain ⟨σ',H',I,q⟩:=h; exact ⟨σ',H',I.untr,q⟩
 | brk=>obtain ⟨σ',H',I,q⟩:=h; exact ⟨σ',H',I.untr,q⟩
 | cont=>obtain ⟨σ',H',I,q⟩:=h; exact ⟨σ',H',I.untr,q⟩
 | ret u=>obtain ⟨v,σ',H',I,r,q⟩:=h; exact ⟨v,σ',H',I.untr,r,q⟩
theorem Inv.sut (I:Inv X pins σ H s) (e:Addr):Inv (X.sut e) pins σ H s :=
 ⟨⟨I.ok.mod,I.ok.kind,I.ok.glob,I.ok.blt,I.ok.above,I.ok.inj,I.ok.has,I.ok.cab,fun z=>(by cases z),I.ok.frames,I.ok.stk,I.ok.exf,I.ok.bs,I.ok.bsz,I.ok.noex,I.ok.exfs,I.ok.funs,I.ok.frf⟩,
  I.os,I.bare,I.base,I.loc,I.cell,I.free,I.freeC,I.pin,I.hok,I.len⟩
theorem Inv.unsut {e:Addr} (hd:X.calm=true->X.A.handled=none) (I:Inv (X.sut e) pins σ H s):Inv X pins σ H s :=
 ⟨⟨I.ok.mod,I.ok.kind,I.ok.glob,I.ok.blt,I.ok.above,I.ok.inj,I.ok.has,I.ok.cab,hd,I.ok.frames,I.ok.stk,I.ok.exf,I.ok.bs,I.ok.bsz,I.ok.noex,I.ok.exfs,I.ok.funs,I.ok.frf⟩,
  I.os,I.bare,I.base,I.loc,I.cell,I.free,I.freeC,I.pin,I.hok,I.len⟩
theorem Inv.track {a:Addr} {o:HO} (I:Inv X pins σ H s) (hn:H a=none) (h0:X.s_0.heap.get? a=none) (hL:a≠X.env.locals) (hc:∀ x c,X.env.cells.lookup x=some c->c≠a) (hp:∀ p∈X.pn++pins,p.1≠a)
  (new:zq X.prog X.w (upd H a o) s.heap a o):Inv X pins σ (upd H a o) s:=by
 refine ⟨I.ok,I.os,I.bare,⟨I.base.keep,I.base.slot,fun b ob q n hx=>?_,I.base.there,fun b xs q=>?_,fun b ob u q=>?_,fun b ps q=>?_⟩,I.loc,I.cell,?_,fun x c q=>?_,fun p z=>?_,fun b u q=>?_,I.len⟩
 ·rw [qa (fun z=>by subst z; rw [h0] at q; cases q)]; exact I.base.free b ob q n hx
 ·have z:=I.base.tups b xs q
  rw [qa (qg z hn)]; exact z
 ·have z:=I.base.frzs b ob u q
  rw [qa (qg z hn)]; exact z
 ·obtain ⟨m,z⟩:=I.base.tbls b ps q
  exact ⟨m,by rw [qa (qg z hn)]; exact z⟩
 ·rw [qa (Ne.symm hL)]; exact I.free
 ·rw [qa (hc x c q)]; exact I.freeC x c q
 ·obtain ⟨e1,e2,e3⟩:=I.pin p z
  exact ⟨e1,by rw [qa (hp p z)]; exact e2,e3⟩
 ·by_cases z:b=a
  ·subst z; rw [qd] at q; cases q; exact new
  ·rw [qa z] at q
   refine (I.hok b u q).stay (fun c v _ r=>r) (fun c r=>?_) fun c xs r=>?_
   ·rw [qa (qg r hn)]; exact r
   ·rw [qa (qg r hn)]; exact r
end
def subB (K:PySem.W.Frag) (C S:Addr):Prop:=∃ cd,PySem.W.clsIn K C=some cd/\cd.mro.contains (.ref S)=true
def qk0 (K:PySem.W.Frag) (S:Addr) (i len:Nat) (tb:XK->TS) (ts:TS):TS:=fun D σ H=>tb (fun c dx H'=>∃ C d,c=.ref C/\dx=some d/\zV K C/\subB K C S /\
 ∀ a xs,H' a=none->ts { nx:=fun _ _=>False,rt:=D.rt } ((List.replicate len none).set i (some (.ref a))) (upd H' a (XOb a C xs (some d)))) D σ H
theorem Jk {X:Cx} {pins:List (Addr × Obj)} {σ : St} {H:Hp} {s:Shared} (I:Inv X pins σ H s):Inv X pins (List.replicate X.N.length none) H s:=I.weak (by rw [List.length_replicate,I.len]) fun i v e=>by
 rw [List.getElem?_replicate] at e
 split at e <;> cases e
theorem Inv.gone {X:Cx} {pins:List (Addr × Obj)} {H:Hp} {s:Shared} {h':Heap} {m':Str->Option Value} {t':Nat} (I:Inv X pins (List.replicate X.N.length none) H s) (hn:h'.Ns X.env.locals m') (sb:Heap.SameBut X.env.locals s.heap h') :
  Inv X pins (List.replicate X.N.length none) H { s with heap:=h',toks:=t' }:=by
 have k:∀ b o,b≠X.env.locals->s.heap.get? b=some o->h'.get? b=some o:=fun b o z e=>(sb.2 b z).trans e
 have nL:∀ b o,X.s_0.heap.get? b=some o->b≠X.env.locals:=fun b o e=>Nat.ne_of_lt (Nat.lt_of_lt_of_le (Heap.lt_size e) I.ok.above)
 refine ⟨I.ok,I.os,I.bare,⟨fun b o e n hb hx=>k b o (nL b o e) (I.base.keep b o e n hb hx),fun b o e n hb hx=>?_,I.base.free,fun b o e hx=>?_,I.base.tups,I.base.frzs,I.base.tbls⟩,⟨m',hn,fun i x v _ e _=>?_⟩,fun x c e=>?_,I.free,I.freeC,fun p hp=>?_,fun b u e=>?_,I.len⟩
 ·obtain ⟨sl,q⟩:=I.base.slot b o e n hb hx
  exact ⟨sl,k b _ (nL b o e) q⟩
 ·obtain ⟨o',q⟩:=I.base.there b o e hx
  exact ⟨o',k b _ (nL b o e) q⟩
 ·rw [List.getElem?_replicate] at e
  split at e <;> cases e
 ·obtain ⟨v,o,ho,hd⟩:=I.cell x c e
  exact ⟨v,o,k c o (I.cne x c e) ho,hd⟩
 ·obtain ⟨e1,e2,e3,e4⟩:=I.pin p hp
  exact ⟨k _ _ e3 e1,e2,e3,e4⟩
 ·have nb:∀ c u',H c=some u'->c≠X.env.locals:=fun c u' q z=>by subst z; rw [I.free] at q; cases q
  refine (I.hok b u e).stay (fun c v hc r=>k c v ?_ r) (fun _ q=>q) fun _ _ q=>q
  rcases hc with rfl | hc
  ·exact nb _ _ e
  ·exact nb _ _ hc
theorem qj2 {cz:Prop} {X:Cx} {rx n:Str} {i:Nat} {S:Addr} {body:List Stmt} {b0:Stmt} {suite:List Stmt} {tb:XK->TS} {ts:TS} {np hpos pos:Pos} (hex:X.ex=[]) (hst:X.stack=X.env::X.outer) (hfr:X.env.frame=some X.env.locals)
  (hN:X.N.Nodup) (hi:X.N[i]? = some n) (hl:X.env.scope.names.lookup n=some .local) (hg:Gl X rx) (hm:X.mg rx=some (.ref S)) (cS:zV X.K S)
  (hb:∀ (xe:Value->Shared->Prop) (pn:List (Addr × Obj)) (E1:XK),zT (qJ cz X.prog X.w) (X.tr xe pn) E1->PSs (X.tr xe pn) body (tb E1)) (hs:∀ e,PSs (X.sut e) (b0::suite) ts) (hdb:(rx == ("__debug__" : Str))=false:=by decide) :
  PS X (.Try body [.ExceptHandler (some (.Name rx np)) (some n) (b0::suite) hpos] [] [] pos) (qk0 X.K S i X.N.length tb ts):=by
 intro pins s σ H D I h
 refine wpAny_Try_except ?_
 let xe:Value->Shared->Prop:=fun e s1=>wpAny (model X.prog X.w) X.A (noteFrame e X.env) (fun _ s2=>wpAny (model X.prog X.w) X.A (setFlight e none) (fun _ s3=>
  wpAny (model X.prog X.w) X.A (handleBy e X.env [.ExceptHandler (some (.Name rx np)) (some n) (b0::suite) hpos]) (SP X pins D) X.xe s3) X.xe s2) X.xe s1
 refine wpAny_mono (hb xe (X.pn++pins) _ ?_ [] s σ H D (I.tr xe) h) (fun f s1 q=>?_) fun e s1 q=>q
 ·intro pins' σ1 H1 s1 e s2 I1 hx
  obtain ⟨a,C,dx,H',B,rfl,hos,hbare,un,hok,fly,c1,c2,hna,C',d',eC,ed,cC,sC,suit⟩:=hx
  cases eC
  cases ed
  have fly:Fly cz B (X.env::X.outer) a C dx .none s2.heap:=by rw [<- hst]; exact fly
  have frs_eq:frs X.stack=frs (X.env::X.outer):=by rw [hst]
  show wpAny (model X.prog X.w) X.A (noteFrame (.ref a) X.env) _ _ s2
  have Afr:X.A.frames=some (X.env::X.outer):=by rw [<- hst]; exact I.ok.frames
  have nof:∀ b∈frs X.stack,∀ o,s2.heap.get? b=some o->∀ vs,o.data≠.fields vs:=by rw [frs_eq]; exact jA fly.ff
  have at_:∀ h2,Fly cz B (X.env::X.outer) a C dx .none h2->s2.heap.UpToSlots h2->Inv X pins σ1 H' { s2 with heap:=h2 }:=fun h2 fly2 up=>
   (I1.call' (s':={ s2 with heap:=h2 }) (ch:=[]) hos (qdz un fly.st fly2.st c1 up nof) (J9 hok fly.st fly2.st c2) hbare fun b z=>absurd z (by simp)).untr
  refine wpAny_mono (LX.qcG (Q:=fun _ s3=>∃ h2,s3={ s2 with heap:=h2 }/\Fly cz B (X.env::X.outer) a C dx .none h2/\s2.heap.UpToSlots h2) (E:=X.xe) Afr hfr fly fun h2 f2 u2=>⟨h2,rfl,f2,u2⟩) (fun _ s3 z=>?_) fun _ _ z=>z
  refine thn z fun _ s4 ⟨h2,e4,fly2,up2⟩=>?_
  subst e4
  have J2:=at_ h2 fly2 up2
  obtain ⟨oe,vs,T,oT,tsr,⟨hoe,hcl,hdi,hda,_,_⟩,_⟩:=fly2.tr
  obtain ⟨nmS,qS,NS,bsS,bmS,hdS,snS,subS,abS,colS,ddS,j0,j1,j2,j3,j5,US,_,hS⟩:=cS.xc
  obtain ⟨cdC,bmC,hcdC,_,_,emC,_,nmC,qC,NC,bsC,hdC,snC,subC,abC,colC,ddC,k0,k1,k2,k3,k5,lkC⟩:=cC.out
  refine wpAny_handleBy_cons (codeAny_handlers_test (jW (X:=X.sut a) (J2.sut a) hg hm ?_ hdb)) (by intro q; cases q)
  obtain ⟨hp,g,dd,tk,os⟩:=s2
  refine LX.qcH US (J2.kIn _ _ lkC) (hS _ J2.kIn) ?_ hoe hcl ?_
  ·obtain ⟨cd,e1,e2⟩:=sC
   rw [hcdC] at e1
   cases e1
   rw [emC] at e2
   exact e2
  show codeAny _ _ _ _ _
  refine codeAny_handlers_suite_as (LX.Qj (s:=⟨h2,g,dd,tk,os⟩) fly2 fun h3 fly3 up3=>?_)
  have J3:Inv X pins σ1 H' ⟨h3,g,dd,tk,os⟩:=at_ h3 fly3 (up2.trans up3)
  obtain ⟨oe,vs,T,oT,tsr,⟨hoe,hcl,hdi,hda,_,_⟩,_⟩:=fly3.tr
  obtain ⟨oec,oed,oedt,oes⟩:=oe
  cases hcl
  cases hdi
  cases hda
  have notIn:∀ b o,s1.heap.get? b=some o->b≠a:=fun b o q z=>by
   subst z
   by_cases hb:b∈frs X.stack
   ·obtain ⟨ob,qb⟩:∃ ob,hp.get? b=some ob:=un.there b o q (by simp)
    obtain ⟨oe2,vs2,_,_,_,⟨z1,_,_,z4,_,_⟩,_⟩:=fly.tr
    exact nof b hb oe2 z1 vs2 z4
   ·obtain ⟨o',eo⟩:=c1 b o q hb
    rw [fly.nw] at eo
    cases eo
  have K3:Inv X pins (List.replicate X.N.length none) (upd H' a (XOb a C vs (some dx))) ⟨h3,g,dd,tk,os⟩:=by
   refine (Jk J3).track hna ?_ ?_ ?_ ?_ (Z0 hoe)
   ·cases q0:X.s_0.heap.get? a with
    | none=>rfl
    | some o=>
     obtain ⟨o1,q1⟩:=I1.base.there a o q0 (by show a∉X.ex; rw [hex]; simp)
     exact absurd rfl (notIn a o1 q1)
   ·intro z
    obtain ⟨m,⟨o,_,_,ho,_⟩,_⟩:=I1.loc
    exact notIn _ o ho z.symm
   ·intro x c q z
    obtain ⟨v,o,ho,_⟩:=I1.cell x c q
    exact notIn _ o ho z
   ·intro p hp' z
    exact notIn _ _ (I1.pin p (List.mem_append_left _ hp')).1 z
  have rdy:=suit a vs hna
  refine Zo (X:=X.sut a) (K3.sut a) hN hi (.inl hl) (v:=V.ref a) rfl (fun s5 I5=>?_) (.inr hl)
  refine wpAny_mono (hs a pins s5 _ _ _ I5 rdy) (fun f s6 q=>?_) fun _ _ z=>z.elim
  show wpAny (model X.prog X.w) X.A (do bindName X.env n .none; unbindBehindTheSuite X.env n hpos) (fun _ s7=>SP X pins D f s7) X.xe s6
  cases f with
  | next=>obtain ⟨_,_,_,z⟩:=q; exact z.elim
  | brk=>obtain ⟨_,_,_,z⟩:=q; exact z.elim
  | cont=>obtain ⟨_,_,_,z⟩:=q; exact z.elim
  | ret u=>
   obtain ⟨v,σ6,H6,I6,rv,q6⟩:=q
   have I6':Inv X pins (List.replicate X.N.length none) H6 s6:=Jk (I6.unsut I.ok.hd)
   obtain ⟨m,hn,_⟩:=id I6'.loc
   refine wpAny_nameGoes (m:=m) hl hn (by rw [I.ok.kind]; rfl) fun h7 m7 hn7 sb7=>⟨v,List.replicate X.N.length none,H6,?_,rv,q6⟩
   exact I6'.gone hn7 sb7
 ·cases f with
  | next=>exact wpAny_execs_nil q.untr
  | ret v=>exact q.untr
  | brk=>exact q.untr
  | cont=>exact q.untr
end L2
end
section
namespace LX
open PySem PySem.Spec PyProof.Rows
theorem qdm:entryFor table "proto.unchain" = some Builtin.«proto.unchain»:=entryFor_of_tree (by kernel_rfl)
section
variable {prog:Program} {w:World} {A:Around} {E:Value->Shared->Prop} {s:Shared} {env:Env}
theorem qd2 {e a:Addr} {oa:Obj} {vs:Array Value} {Q:Value->Shared->Prop} (ha:s.heap.get? a=some oa) (hd:oa.data=.fields vs) (hz:vs[2]? = some .none) (hq:Q .none s) :
  wpAny (model prog w) A (runValue (.builtin "proto.unchain" ⟨[.ref e,.ref a,.ref a,.bool false],[]⟩)) Q E s:=by
 refine wpAny_runValue (codeAny_builtin qdm ?_)
 unfold Builtin.«proto.unchain»
 refine wpAny_bind (wpAny_field ha hd hz ?_)
 rw [if_pos (by decide)]
 exact wpAny_pure hq
variable {nm q:Str} {C N:Addr} {bs bm:List Value} {hdct:Bool} {sn:List Str} {sub:List Value} {ab:Bool} {col:Option Bool} {dd:Option Addr} {k0 k1 k2 k3 k5:Option Value}
variable {nm' q':Str} {C' N':Addr} {bs' bm':List Value} {hdct':Bool} {sn':List Str} {sub':List Value} {ab':Bool} {col':Option Bool} {dd':Option Addr} {j0 j1 j2 j3 j5:Option Value}
theorem qeX {a:Addr} {x c:Sem Value} {Q:Flow->Shared->Prop} (U:Under bm) (U':Under bm') (hh:A.handled=some (.ref a))
  (h:wpAny (model prog w) A x (fun v s1=>wpAny (model prog w) A c (fun cv s2=>∃ (e t:Addr) (dx:Option Addr) (sl:Array (Option Value)) (oa:Obj) (vs:Array Value),v=.ref e/\cv=.ref a/\e≠a /\
   XC s2.heap nm q C N bs bm hdct sn sub ab col dd k0 k1 k2 k3 k5/\XC s2.heap nm' q' C' N' bs' bm' hdct' sn' sub' ab' col' dd' j0 j1 j2 j3 j5 /\
   s2.heap.get? e=some { cls:=.ref C,dict:=dx,data:=.fields #[.ref t,.none,.none,.none,.bool false,.none],slots:=sl }/\s2.heap.get? a=some oa/\oa.cls=.ref C'/\oa.data=.fields vs/\vs[2]? = some .none /\
   ∀ h',h'.get? e=some { cls:=.ref C,dict:=dx,data:=.fields #[.ref t,.none,.ref a,.ref a,.bool true,.none],slots:=sl }->(∀ b,b≠e->h'.get? b=s2.heap.get? b)->h'.objs.size=s2.heap.objs.size->E (.ref e) { s2 with heap:=h' }) E s1) E s) :
  wpAny (model prog w) A (raiseStmt env (some x) (some c)) Q E s:=by
 have cB:(Value.ref C::bm).contains (.type "BaseException")=true:=by rw [List.contains_cons,U.b2]; exact Bool.or_true _
 have cB':(Value.ref C'::bm').contains (.type "BaseException")=true:=by rw [List.contains_cons,U'.b2]; exact Bool.or_true _
 unfold raiseStmt
 refine wpAny_bind (wpAny_mono h (fun v s1 z=>?_) fun _ _ x=>x)
 refine wpAny_bind (wpAny_holding (wpAny_mono z (fun cv s2 z=>?_) fun _ _ x=>x))
 obtain ⟨e,t,dx,sl,oa,vs,rfl,rfl,hne,hC,hC',he,ha,hca,hda,hz,hE⟩:=z
 obtain ⟨hp,g,d,tk,os⟩:=s2
 have ha':hp.get? a=some oa:=ha
 repeat (first
  | with_reducible refine wpAny_loadPart_at he ?_
  | with_reducible refine wpAny_loadPart_at hC ?_
  | (with_reducible refine wpAny_isSubtype_exc hC ?_; rw [cB])
  | wp_step)
 rw [hca]
 refine wpAny_isSubtype_exc hC' ?_
 rw [cB']
 have eC:e≠C:=fun z=>by
  subst z
  have q:=hC.symm.trans he
  cases q
 have step:∀ {h0:Heap} {vs0:Array Value} {i:Nat} {x:Value},h0.get? e=some ⟨.ref C,dx,.fields vs0,sl⟩->(h0.update e (Obj.mapFields (·.setIfInBounds i x))).get? e=some ⟨.ref C,dx,.fields (vs0.setIfInBounds i x),sl⟩:=fun {h0 vs0 i x} q=>Heap.get?_update_self _ q rfl
 have oth:∀ {h0:Heap} {i:Nat} {x:Value} {b:Addr},b≠e->(h0.update e (Obj.mapFields (·.setIfInBounds i x))).get? b=h0.get? b:=fun {h0 i x b} z=>Heap.get?_update_other _ _ (Ne.symm z)
 have siz:∀ {h0:Heap} {i:Nat} {x:Value},(h0.update e (Obj.mapFields (·.setIfInBounds i x))).objs.size=h0.objs.size:=fun {h0 i x}=>by simp [Heap.update]
 rw [if_pos rfl]
 refine wpAny_pure ?_
 refine wpAny_bind (wpAny_setField he rfl (by show 3<6; decide) ?_)
 have he1:=step (i:=3) (x:=.ref a) he
 have o1:∀ b,b≠e->(hp.update e (Obj.mapFields (·.setIfInBounds 3 (.ref a)))).get? b=hp.get? b:=fun b z=>oth z
 have z1:=siz (h0:=hp) (i:=3) (x:=.ref a)
 generalize hp.update e (Obj.mapFields (·.setIfInBounds 3 (.ref a)))=h1 at he1 o1 z1 ⊢
 refine wpAny_bind (wpAny_setField he1 rfl (by show 4<6; decide) ?_)
 have he2:=step (i:=4) (x:=.bool true) he1
 have o2:∀ b,b≠e->(h1.update e (Obj.mapFields (·.setIfInBounds 4 (.bool true)))).get? b=hp.get? b:=fun b z=>(oth z).trans (o1 b z)
 have z2:=(siz (h0:=h1) (i:=4) (x:=.bool true)).trans z1
 generalize h1.update e (Obj.mapFields (·.setIfInBounds 4 (.bool true)))=h2 at he2 o2 z2 ⊢
 have hC2:XC h2 nm q C N bs bm hdct sn sub ab col dd k0 k1 k2 k3 k5:=(o2 C (Ne.symm eC)).trans hC
 repeat (first
  | with_reducible refine wpAny_loadPart_at he2 ?_
  | with_reducible refine wpAny_loadPart_at hC2 ?_
  | wp_step)
 have ha2:h2.get? a=some oa:=(o2 a (Ne.symm hne)).trans ha'
 have t1:(Value.ref a != Value.ref e)=true:=by simp; exact Ne.symm hne
 unfold raiseNew
 refine wpAny_bind (wpAny_handled ?_)
 rw [hh]
 show wpAny _ _ (if (Value.ref a != Value.ref e)=true then (do let _ <- holding [Value.ref e] (runValue (.builtin "proto.unchain" ⟨[.ref e,.ref a,.ref a,.bool false],[]⟩)); let _ <- updateField e 2 (.ref a); throw (.ref e)) else throw (.ref e)) _ _ _
 rw [if_pos t1]
 refine wpAny_bind (wpAny_holding (qd2 ha2 hda hz ?_))
 have he3:=step (i:=2) (x:=.ref a) he2
 have o3:∀ b,b≠e->(h2.update e (Obj.mapFields (·.setIfInBounds 2 (.ref a)))).get? b=hp.get? b:=fun b z=>(oth z).trans (o2 b z)
 have z3:=(siz (h0:=h2) (i:=2) (x:=.ref a)).trans z2
 refine wpAny_bind (show wpAny _ _ (setField (.ref e) 2 (.ref a)) _ _ _ from wpAny_setField he2 rfl (by show 2<6; decide) (wpAny_throw ?_))
 exact hE _ he3 o3 z3
end
end LX
end
section
namespace L2
open PySem PySem.Spec PyProof.Rows
open LX (Fly Under XC jJ)
abbrev Cx.un (X:Cx):Cx:={ X with calm:=false }
structure jI (k:Nat) (A:Around):Prop where
 dp:A.depth+3 * k+5<recursionLimit
 un:A.units+16 * k+200<cLine
theorem jI.deeper {k:Nat} {A:Around} (r:jI (k+1) A) (env:Env):jI k (A.deeper env) :=
 ⟨by have:=r.dp; show A.depth+1+3 * k+5<_; omega,by have:=r.un; show A.units+3+16 * k+200<_; omega⟩
theorem jI.make {k:Nat} {A:Around} (r:jI (k+1) A) (C:Addr) (us:List Value) (kw:List (Str × Value)):jI k (A.under (.builtin "type.__call__" ⟨.ref C::us,kw⟩)) :=
 ⟨by have:=r.dp; rw [qbw]; omega,by have:=r.un; rw [qbx]; omega⟩
theorem jI.depth {k:Nat} {A:Around} (r:jI k A):A.depth<recursionLimit:=by have:=r.dp; omega
theorem qE.mark {k:Nat} {A:Around} (r:qE k A) (h:Option Value):jI k (A.mark h):=⟨r.dp,r.un⟩
structure Q0 (P:Program) (w:World) (K:PySem.W.Frag) (mg:Str->Option Value) (base:Heap) (CX:CXT) (k:Nat) (f:Addr) (fd:FuncData) (ps:List Str) (sp:Sp):Prop where
 len:∀ vs H Q E,sp vs H Q E->vs.length=ps.length
 run:∀ (A:Around) (outer:List Env) (s:Shared) (H:Hp) (args:Args) (us:List Value) (vs:List V) (Q:VK) (E:XK),jI k A->Jf P w K mg base A outer s H->BindsTo s fd args (ps.zip us)->qv vs us->sp vs H Q E ->
  codeAny (model P w) A (.call (.ref f) args) (CR CX outer P w H s Q E) s
theorem qfU {CX:CXT} {P:Program} {w:World} {K:PySem.W.Frag} {mg:Str->Option Value} {base:Heap} {N ps:List Str} {qual:Str} {scope:Scope} {f:Addr} {cd:Value} {A:Around} {outer:List Env} {s s1:Shared} {H:Hp} {E:XK} {us:List Value} {vs:List V}
  (S:qo N ps scope) (e0:Jf P w K mg base A outer s H) (hl:vs.length=ps.length) (r:qv vs us)
  (x:InCallC s s.heap.objs.size (bindL (envOfC qual scope s.heap.objs.size f cd).kindOf (ps.zip us) fun _=>none) (cellsFrom (s.heap.objs.size+1) scope.names []) (bindC (envOfC qual scope s.heap.objs.size f cd).kindOf (ps.zip us) fun _=>none) s1) :
  Inv (qF CX P w K mg base N qual scope f cd A outer s H E).un [] (start N vs) H s1:=by
 have hpl:ps.length<=N.length:=by have:=congrArg List.length S.pre; rw [List.length_take] at this; omega
 obtain ⟨h1,tk,rfl,hk⟩:=x.done
 have noA:∀ b:Addr,b∉(qF CX P w K mg base N qual scope f cd A outer s H E).un.ex:=fun b z=>absurd (show b∈([]:List Addr) from z) (by simp)
 refine ⟨⟨e0.mod,S.kind,rfl,rfl,Nat.le_refl _,fun y z c h1 h2=>?_,fun y hy=>?_,fun y c _ h=>?_,fun z=>absurd z Bool.false_ne_true,Around.frames_deeper e0.frames,.inr ⟨rfl,rfl⟩,fun b z=>absurd z (noA b),e0.bs,e0.bsz,fun b _ _=>noA b,fun b z=>absurd z (noA b),e0.funs,e0.frf⟩,
  rfl,e0.bare,Un.kept hk,⟨_,x.toInCall.ns,fun i y v h1 h2 h3=>?_⟩,fun y c h=>⟨_,x.cell y c h⟩,e0.hok.fresh (Nat.le_refl _),fun y c h=>?_,fun p hp=>absurd (show p∈([]:List (Addr × Obj)) from hp) (by simp),e0.hok.kept hk,?_⟩
 ·exact name_of_addr x.apart (PySem.mem_of_lookup h1) (PySem.mem_of_lookup h2)
 ·have hy:scope.names.lookup y=some .cell \/ scope.names.lookup y=some .free:=hy
  rcases hy with hy | hy
  ·exact Jg hy
  ·exact absurd rfl (S.nofree _ (PySem.mem_of_lookup hy))
 ·exact Nat.le_of_lt (x.above y c (PySem.mem_of_lookup h))
 ·have hi:i<vs.length:=by
   unfold start at h2
   by_cases hi:i<vs.length
   ·exact hi
   ·rw [List.getElem?_append_right (by simpa using hi)] at h2
    rw [List.getElem?_replicate] at h2
    split at h2 <;> cases h2
  have ha:vs[i]? = some v:=by
   unfold start at h2
   rw [List.getElem?_append_left (by simpa using hi),List.getElem?_map] at h2
   cases e:vs[i]? with
   | none=>rw [e] at h2; cases h2
   | some a=>rw [e] at h2; cases h2; rfl
  obtain ⟨u,hu,rv⟩:=r.get ha
  have hp:ps[i]? = some y:=by
   rw [<- S.pre,List.getElem?_take_of_lt (by omega)]; exact h1
  have ndP:ps.Nodup:=by rw [<- S.pre]; exact S.nd.sublist (List.take_sublist _ _)
  refine ⟨u,rv,?_⟩
  rcases S.par y (List.mem_of_getElem? hp) with k | k
  ·exact .inl ⟨k,JW ndP hp hu k⟩
  ·obtain ⟨c,e⟩:=Jg (n:=s.heap.objs.size+1) k
   refine .inr ⟨.inl k,c,e,?_⟩
   have q:=x.cell y c e
   rw [JX ndP hp hu (by show scope.names.lookup y≠_; rw [k]; decide)] at q
   exact q
 ·exact e0.hok.fresh (Nat.le_of_lt (x.above y c (PySem.mem_of_lookup h)))
 ·unfold start
  show _=N.length
  rw [List.length_append,List.length_map,List.length_replicate]
  omega
theorem qj3 {CX:CXT} {P:Program} {w:World} {K:PySem.W.Frag} {mg:Str->Option Value} {base:Heap} {k:Nat} {f:Addr} {name qual:Str} {params:Arguments} {body:List Stmt} {scope:Scope} {dV kV doc pm cdv ct oc:Value} {an od:Option Addr}
  {osl:Array (Option Value)} {N ps:List Str} {sp:Sp} (lk:K.lookup f=some ⟨oc,od,.func (PySem.W.fnOf name qual params body scope dV kV doc pm an cdv ct),osl⟩) (hcd:PySem.W.codeIn K cdv qual=true) (S:qo N ps scope)
  (len:∀ vs H Q E,sp vs H Q E->vs.length=ps.length)
  (hbody:∀ (A:Around) (outer:List Env) (s:Shared) (H:Hp) (vs:List V) (Q:VK) (E:XK),jI k (A.deeper (envOfC qual scope s.heap.objs.size f cdv))->sp vs H Q E ->
   ∃ t,PSs (qF CX P w K mg base N qual scope f cdv A outer s H E).un body t/\t { nx:=fun _ H'=>Q .non H',rt:=Q } (start N vs) H) :
  Q0 P w K mg base CX (k+1) f (PySem.W.fnOf name qual params body scope dV kV doc pm an cdv ct) ps sp:=by
 refine ⟨len,fun A outer s H args us vs Q E hr e0 hb r hsp=>?_⟩
 have hl:=len _ _ _ _ hsp
 have KX:K.In s.heap:=e0.mod.kin.keeps fun b o e=>(e0.bs b o e).1
 have lim:s.heap.NoLimit:=e0.mod.nolimit.keeps fun b o e=>(e0.bs b o e).1
 have hkind:∀ y∈ps.zip us,scope.names.lookup y.1=some .local \/ (scope.names.lookup y.1=some .cell/\((cellsFrom (s.heap.objs.size+1) scope.names []).lookup y.1).isSome=true):=fun ⟨n,v⟩ hy=>by
  rcases S.par n (List.of_mem_zip hy).1 with q | q
  ·exact .inl q
  ·exact .inr ⟨q,PySem.W.cellsFrom_some _ _ _ (.inl q)⟩
 refine codeAny_call_function hr.depth (KX _ _ lk) rfl S.co S.gen rfl (PySem.W.codeRec_of KX hcd) (hb _ _ _ _ ?_)
 refine wpAny_newFunctionEnv_cells S.kind hkind fun env he s1 x=>?_
 subst he
 refine ⟨lim.keeps x.toInCall.keep,codeAny_func ?_⟩
 obtain ⟨t,ht,hq⟩:=hbody A outer s H vs Q E (hr.deeper _) hsp
 have I:Inv (qF CX P w K mg base N qual scope f cdv A outer s H E).un [] (start N vs) H s1:=qfU S e0 hl r x
 refine wpAny_mono (ht [] s1 (start N vs) H _ I hq) (fun fl s' hs=>?_) fun e s' hs=>hs
 have fin:∀ {σ':St} {H':Hp} {v:V} {u:Value},Inv (qF CX P w K mg base N qual scope f cdv A outer s H E).un [] σ' H' s'->RelV v u->Q v H'->CE outer P w H s Q u s' :=
  fun {σ' H' v u} J rv q=>⟨v,H',J.os,J.bare,J.base,J.hok,rv,q⟩
 cases fl with
 | ret u=>
  obtain ⟨v,σ',H',J,rv,q⟩:=hs
  exact fin J rv q
 | next=>
  obtain ⟨σ',H',J,q⟩:=hs
  exact fin (v:=V.non) (u:=Value.none) J rfl q
 | brk=>
  obtain ⟨_,_,_,q⟩:=hs
  exact False.elim q
 | cont=>
  obtain ⟨_,_,_,q⟩:=hs
  exact False.elim q
section
variable {P:Program} {w:World} {K:PySem.W.Frag} {mg:Str->Option Value} {base:Heap}
theorem Fun.okU {x qual:Str} {st:Stmt} {f:Addr} {fd:FuncData} {N ps:List Str} {k:Nat} {sp:Sp} (F:Fun K x qual st f fd) (S:qo N ps (qe st)) (len:∀ vs H Q E,sp vs H Q E->vs.length=ps.length)
  (hbody:∀ (cdv:Value) (A:Around) (outer:List Env) (s:Shared) (H:Hp) (vs:List V) (Q:VK) (E:XK),jI k (A.deeper (envOfC qual (qe st) s.heap.objs.size f cdv))->sp vs H Q E ->
   ∃ t,PSs (qF CX0 P w K mg base N qual (qe st) f cdv A outer s H E).un.nox (qm st) t/\t { nx:=fun _ H'=>Q .non H',rt:=Q } (start N vs) H):Q0 P w K mg base CX0 (k+1) f fd ps sp:=by
 obtain ⟨oc,od,kV,doc,pm,an,cdv,ct,osl,rfl,lk,hcd⟩:=F.ex
 refine qj3 lk hcd S len fun A outer s H vs Q E hr hsp=>?_
 obtain ⟨t,h,q⟩:=hbody cdv A outer s H vs Q E hr hsp
 exact ⟨t,h.nox,q⟩
end
section
variable {X:Cx} {CX:CXT} {k:Nat} {f C:Addr} {fd:FuncData} {ps:List Str} {sp:Sp} {dvs:List V} {ds:List Value} {E:XK} {x m:Str} {p pos apos:Pos} {e:Expr} {es:List Expr} {t:TA}
theorem qi3 {pins:List (Addr × Obj)} {σ : St} {H:Hp} {s:Shared} {Q:VK} {us:List Value} {vs:List V} (F:Q0 X.prog X.w X.K X.mg X.base CX k f fd ps sp) (hr:jI k X.A) (hb:Binds X.K fd ps ds) (hd:qv dvs ds) (hx:zT CX X E)
  (I:Inv X pins σ H s) (r:qv vs us) (h:sp (vs++dvs) H Q E):wpAny (model X.prog X.w) X.A (call (.ref f) us) (EP X pins σ Q) X.xe s:=by
 have r2:qv (vs++dvs) (us++ds):=r.append hd
 have hl:(us++ds).length=ps.length:=by rw [<- r2.length]; exact F.len _ _ _ _ h
 refine wpAny_call (codeAny_mono (F.run X.A X.stack s H ⟨us,[]⟩ (us++ds) (vs++dvs) Q E hr I.env0 (hb s us I.kIn hl) r2 h) fun r s' hq=>?_)
 cases r with
 | error e=>exact hx pins σ H s e s' I hq
 | ok fl=>
  cases fl with
  | ret u=>exact I.after hq
  | next=>exact False.elim hq
  | brk=>exact False.elim hq
  | cont=>exact False.elim hq
theorem qeY {pl:Sem Bool} (hg:Gl X x) (hm:X.mg x=some (.ref C)) (c:qdA X.K C m f) (F:Q0 X.prog X.w X.K X.mg X.base CX k f fd ps sp) (hr:jI k X.A) (hb:Binds X.K fd ps ds) (hd:qv dvs ds) (hx:zT CX X E) (ha:PA X (e::es) t)
  (hdb:(x == ("__debug__" : Str))=false:=by decide)
  (hst:starEach (e::es) X.env=(false,eval e X.env)::starEach es X.env:=by rfl) (hpl:(backTo pos (starEach es X.env)).any (·.1)=false:=by rfl)
  (ht:eval (.Call (.Attribute (.Name x p) m apos) (e::es) [] pos) X.env=(do
   let ov <- eval (.Name x p) X.env
   standAt apos.atName
   let (f,first) <- holding [ov] (getMethod ov m pl)
   callWith pos f first (backTo pos (starEach (e::es) X.env)) (backToKw pos (keywordEach [] X.env))):=by rfl) :
  PE X (.Call (.Attribute (.Name x p) m apos) (e::es) [] pos) (Qk sp dvs E t):=by
 intro pins s σ H Q I h
 refine PySem.W.methodCall_KW (pl:=pl) (jW I hg hm ?_ hdb) ht
 refine PySem.W.method_cls I.kIn c.ga (PySem.W.cls_value I.kIn c.rd c.at_ rfl ?_)
 refine PySem.W.callWith_K (first:=[]) (h₀:=X.base) I.ok.mod.kin c.kp (thn (ha pos pins _ σ H _ (I.tok _) h) fun us s2 ⟨vs,H2,I2,r,q2⟩=>⟨I2.kIn,?_⟩) hst hpl
 exact qi3 F hr hb hd hx I2 r q2
theorem qfV {fI:Addr} {pins:List (Addr × Obj)} {σ : St} {H:Hp} {s:Shared} {us:List Value} {vs:List V} {Qe:Addr->Addr->Addr->Hp->Prop}
  (M:XMk X.K C fI) (F:Q0 X.prog X.w X.K X.mg X.base CX0 k fI fd ps sp) (hr:jI (k+1) X.A) (hb:Binds X.K fd ps [])
  (I:Inv X pins σ H s) (r:qv vs us) (hl:vs.length<=1000)
  (h:∀ a ta,H a=none->sp (.ref a::vs) (upd H a (XOb a C (xv ta) none)) (fun v H2=>v=.non/\∃ dx,H2 a=some (XOb a C (xv ta) (some dx))/\Qe a ta dx H2) E0) :
  wpAny (model X.prog X.w) X.A (call (.ref C) us)
   (fun v s1=>∃ (a ta dx:Addr) (H2:Hp),v=.ref a/\Inv X pins σ H2 s1/\s.heap.objs.size<=a/\H a=none/\H2 a=some (XOb a C (xv ta) (some dx))/\Qe a ta dx H2) X.xe s:=by
 obtain ⟨nm,q,N',bs,bm,hdct,sn,sub,ab,col,dd,k0,k1,k2,k3,k5,U,_,hC⟩:=M.cls.xc
 obtain ⟨oI,hoI,hcI⟩:=qiB M.fn
 have KX:X.K.In s.heap:=I.kIn
 obtain ⟨hh,g,d,tk,os⟩:=s
 refine LX.x_call U (hC _ KX) (PySem.W.looks_findIn KX M.init) (KX _ _ hoI) hcI (by rw [<- r.length,sizeLine_eq]; omega) fun h' a hsz hm=>?_
 obtain ⟨ta,ht,_,_⟩:=hm.there
 have hfr:=I.hok.fresh hsz
 have hq:=h a ta hfr
 have I2:Inv X pins σ (upd H a (XOb a C (xv ta) none)) ⟨h',g,d,tk,os⟩:=I.laid (t':=tk) hm.keeps hsz (Z0 ht)
 have r2:qv (V.ref a::vs) (Value.ref a::us):=.cons rfl r
 have hl2:(Value.ref a::us++[]).length=ps.length:=by
  rw [List.append_nil,<- r2.length]
  exact F.len _ _ _ _ hq
 refine wpAny_call (codeAny_mono (F.run _ _ _ _ ⟨Value.ref a::us,[]⟩ (Value.ref a::us) _ _ _ (hr.make C us []) (I2.env0.make C us []) ?_ r2 hq) fun res s' hq'=>?_)
 ·have:=hb ⟨h',g,d,tk,os⟩ (Value.ref a::us) I2.kIn hl2
  rw [List.append_nil] at this
  exact this
 ·cases res with
  | error e=>exact False.elim hq'
  | ok fl=>
   cases fl with
   | ret u=>
    obtain ⟨v,H',I3,rv,ev,dx,z1,z2⟩:=I2.after hq'
    subst ev
    exact ⟨rv,a,ta,dx,H',rfl,I3,hsz,hfr,z1,z2⟩
   | next=>exact False.elim hq'
   | brk=>exact False.elim hq'
   | cont=>exact False.elim hq'
end
end L2
end
section
namespace LX
open PySem PySem.Spec PyProof.Rows
section
variable {M:Model} {A:Around} {E:Value->Shared->Prop} {s:Shared} {B:Heap} {env:Env} {outer:List Env} {L e C dx:Addr} {Q:Unit->Shared->Prop} {cz:Prop}
theorem qbB {l:List Env} (hf:env.frame=some L) (F:Fly cz B l e C dx (rawInt L) s.heap) (h:Q () s):wpAny M A (noteFrame (.ref e) env) Q E s:=by
 obtain ⟨hst,hnw,hl,oe,vs,T,oT,ts,⟨he,hc,hdx,hd,h1,hz⟩,⟨hnT,hTe⟩,hT,hdT,h3⟩:=F
 unfold noteFrame
 simp only [hf]
 refine wpAny_bind (wpAny_field he hd h1 ?_)
 have t1:(Value.ref T != Value.none)=true:=by simp
 rw [if_pos t1]
 refine wpAny_bind (wpAny_field hT hdT h3 ?_)
 rw [if_pos (by simp)]
 exact wpAny_pure h
theorem qcR {l:List Env} {fl:Value} (F:Fly cz B l e C dx fl s.heap) (h:∀ h',Fly cz B l e C dx (rawInt L) h'->s.heap.UpToSlots h'->Q () { s with heap:=h' }):wpAny M A (setFlight (.ref e) (some L)) Q E s:=by
 obtain ⟨hst,hnw,hl,oe,vs,T,oT,ts,⟨he,hc,hdx,hd,h1,hz⟩,⟨hnT,hTe⟩,hT,hdT,h3⟩:=F
 have h3s:3<ts.size:=(Array.getElem?_eq_some_iff.mp h3).1
 have oth:∀ b,b≠T->(s.heap.update T (Obj.mapFields (·.setIfInBounds 3 ((some L:Option Addr).elim Value.none fun f=>rawInt f)))).get? b=s.heap.get? b:=fun b z=>Heap.get?_update_other _ _ (Ne.symm z)
 have rec_ne:∀ b o,s.heap.get? b=some o->(∀ ws,o.data≠.fields ws)->b≠T:=by
  intro b o q hnf z
  subst z
  obtain rfl:oT=o:=Option.some.inj (hT.symm.trans q)
  exact hnf ts hdT
 unfold setFlight
 refine wpAny_bind (wpAny_field he hd h1 ?_)
 have t1:(Value.ref T != Value.none)=true:=by simp
 rw [if_pos t1]
 refine wpAny_setField hT hdT h3s (h _ ⟨fun b o q=>(oth b fun z=>by subst z; rw [hnT] at q; cases q).trans (hst b o q),hnw,hl.of_keeps fun b o q hnf=>⟨o,(oth b (rec_ne b o q hnf)).trans q,rfl⟩,?_⟩ fun b o q hnf=>⟨o.slots,(oth b (rec_ne b o q hnf)).trans q⟩)
 exact ⟨oe,vs,T,_,_,⟨(oth e (Ne.symm hTe)).trans he,hc,hdx,hd,h1,hz⟩,⟨hnT,hTe⟩,Heap.get?_update_self _ hT (Obj.isFreed_of_fields (Obj.data_mapFields hdT _)),Obj.data_mapFields hdT _,by simp [h3s]⟩
end
theorem qbC {h h' B:Heap} (k:∀ b o,h.get? b=some o->(∀ vs,o.data≠.fields vs)->∃ o',h'.get? b=some o'/\∀ vs,o'.data≠.fields vs):∀ {l:List Env},h.FunFrames B l->h'.FunFrames B l
 | [],_=>trivial
 | env::r,⟨hk,⟨L,o,hf,hn,ho,hd⟩,hr⟩=>by
  obtain ⟨o',h1,h2⟩:=k L o ho hd
  exact ⟨hk,⟨L,o',hf,hn,h1,h2⟩,qbC k hr⟩
end LX
namespace L2
open PySem PySem.Spec PyProof.Rows
open LX (Fly)
theorem qj4 {fs:List Addr} {H H':Hp} {h h1 h2 B:Heap} (u:Un fs [] H H' h h1) (s1:B.StaysIn h1) (s2:B.StaysIn h2) (hB:∀ b o,h.get? b=some o->b∉fs->∃ o',B.get? b=some o')
  (up:∀ b∈fs,∀ o,h1.get? b=some o->(∀ vs,o.data≠.fields vs)->∃ sl,h2.get? b=some { o with slots:=sl }) (hf:∀ b∈fs,∀ o,h1.get? b=some o->∀ vs,o.data≠.fields vs):Un fs [] H H' h h2 where
 keep:=fun b o q n hb hx=>by
  obtain ⟨o',e⟩:=hB b o q hb
  have e1:=s1 b o' e
  rw [u.keep b o q n hb hx] at e1
  cases e1
  exact s2 b _ e
 slot:=fun b o q n hb hx=>by
  obtain ⟨sl,e⟩:=u.slot b o q n hb hx
  obtain ⟨sl2,e2⟩:=up b hb _ e (hf b hb _ e)
  exact ⟨sl2,e2⟩
 free:=u.free
 there:=fun b o q hx=>by
  by_cases hb:b∈fs
  ·obtain ⟨o1,e1⟩:=u.there b o q hx
   obtain ⟨sl2,e2⟩:=up b hb _ e1 (hf b hb _ e1)
   exact ⟨_,e2⟩
  ·obtain ⟨o',e⟩:=hB b o q hb
   exact ⟨o',s2 b o' e⟩
 tups:=u.tups
 frzs:=u.frzs
 tbls:=u.tbls
section
variable {P:Program} {w:World} {K:PySem.W.Frag} {mg:Str->Option Value} {base:Heap} {N:List Str} {qual:Str} {scope:Scope} {f:Addr} {cd:Value} {A:Around} {outer:List Env} {s:Shared} {H:Hp} {E:XK}
theorem qi4 {cz:Prop} {pins:List (Addr × Obj)} {σ : St} {H1:Hp} {s1:Shared} {a C dx:Addr} {vs:Array Value} {n:Str} {pos:Pos} {hm:Option Value} {Ex1 Ex2:Value->Shared->Prop}
  (I:Inv (qF (qJ cz P w) P w K mg base N qual scope f cd A outer s H E) pins σ H1 s1) (ha:H1 a=some (XOb a C vs (some dx))) (hv:vs[1]? = some .none) (hz:cz->vs[2]? = some .none) (hnew:s.heap.objs.size<=a) (hE:E (.ref C) (some dx) (jg H1 a))
  (hln:scope.names.lookup n=some .local) :
  wpAny (model P w) ((A.deeper (envOfC qual scope s.heap.objs.size f cd)).mark hm) (noteFrame (.ref a) (envOfC qual scope s.heap.objs.size f cd)) (fun _ s3=>
   wpAny (model P w) ((A.deeper (envOfC qual scope s.heap.objs.size f cd)).mark hm) (do bindName (envOfC qual scope s.heap.objs.size f cd) n .none; unbindBehindTheSuite (envOfC qual scope s.heap.objs.size f cd) n pos) (fun _ s4=>
    wpAny (model P w) ((A.deeper (envOfC qual scope s.heap.objs.size f cd)).mark hm) (passOn "try.except-as" (.ref a) (envOfC qual scope s.heap.objs.size f cd):Sem Flow) (fun _ _=>False)
     (notedBy (model P w) ((A.deeper (envOfC qual scope s.heap.objs.size f cd)).mark hm) (envOfC qual scope s.heap.objs.size f cd) fun x s'=>cameBackBy (model P w) (A.deeper (envOfC qual scope s.heap.objs.size f cd)) (envOfC qual scope s.heap.objs.size f cd) (qF (qJ cz P w) P w K mg base N qual scope f cd A outer s H E).xe x s') s4) Ex2 s3) Ex1 s1:=by
 obtain ⟨sl,hob⟩:=I.hok.xob ha
 have nfr:∀ b∈frs (qF (qJ cz P w) P w K mg base N qual scope f cd A outer s H E).stack,b≠a:=fun b hb z=>by
  have:=I.stkFree b hb
  rw [z,ha] at this
  cases this
 let l:=a::frs (qF (qJ cz P w) P w K mg base N qual scope f cd A outer s H E).stack
 let B:=PySem.W.hideAll s1.heap l
 have stB:B.StaysIn s1.heap:=fun b o q=>PySem.W.of_hideAll l q
 have inB:∀ b o,s1.heap.get? b=some o->b≠a->b∉frs (qF (qJ cz P w) P w K mg base N qual scope f cd A outer s H E).stack->B.get? b=some o:=fun b o q h1 h2=>PySem.W.hideAll_get l q (by
  intro z
  rcases List.mem_cons.mp z with z | z
  ·exact h1 z
  ·exact h2 z)
 have c1':∀ b o,s.heap.get? b=some o->b∉frs outer->∃ o',B.get? b=some o':=fun b o q hb=>by
  obtain ⟨o1,q1⟩:=I.base.there b o q (by simp [qF])
  refine ⟨o1,inB b o1 q1 (Nat.ne_of_lt (Nat.lt_of_lt_of_le (Heap.lt_size q) hnew)) fun hm=>?_⟩
  rcases List.mem_cons.mp (I.stkSub b hm) with z | z
  ·have lt:=Heap.lt_size q
   rw [z] at lt
   exact absurd lt (Nat.lt_irrefl _)
  ·exact hb z
 have c2:∀ b u,jg H1 a b=some u->∃ o',B.get? b=some o':=fun b u q=>by
  have hba:b≠a:=fun z=>by subst z; rw [Qb] at q; cases q
  rw [zi hba] at q
  obtain ⟨o,ho⟩:∃ o,s1.heap.get? b=some o:=by
   have lt:=I.hok.lt q
   cases hq:s1.heap.get? b with
   | some o=>exact ⟨o,rfl⟩
   | none=>
    exfalso
    have x:=I.hok b u q
    cases u with
    | lst xs=>obtain ⟨_,_,_,_,e⟩:=x; rw [hq] at e; cases e
    | tup xs=>obtain ⟨_,_,_,ob,e,_⟩:=x; rw [hq] at e; cases e
    | dK kvs=>obtain ⟨_,_,_,_,o,_,_,e,_⟩:=x; rw [hq] at e; cases e
    | dT kvs=>obtain ⟨_,_,_,_,o,_,_,e,_⟩:=x; rw [hq] at e; cases e
    | set S n=>obtain ⟨o,_,_,_,e,_⟩:=x; rw [hq] at e; cases e
    | ins C dx fs=>obtain ⟨_,_,_,e,_⟩:=x; rw [hq] at e; cases e
    | own y=>obtain ⟨_,e⟩:=x; rw [hq] at e; cases e
    | xd fs=>obtain ⟨_,⟨_,_,_,e,_⟩,_⟩:=x; rw [hq] at e; cases e
    | rng lo hi=>obtain ⟨_,_,_,e⟩:=x; rw [hq] at e; cases e
    | frz ob u=>obtain ⟨e,_⟩:=x; rw [hq] at e; cases e
    | tbl ps=>have e:s1.heap.get? b=some _:=x; rw [hq] at e; cases e
    | met f y=>have e:s1.heap.get? b=some _:=x; rw [hq] at e; cases e
    | ext φ=>obtain ⟨_,⟨_,e⟩,_⟩:=x; rw [hq] at e; cases e
  exact ⟨o,inB b o ho hba fun hm=>by rw [I.stkFree b hm] at q; cases q⟩
 have ok1:HOk P w (jg H1 a) s1.heap:=fun b u q=>by
  have hba:b≠a:=fun z=>by subst z; rw [Qb] at q; cases q
  rw [zi hba] at q
  refine (I.hok b u q).stay (fun c v _ z=>z) (fun c z=>?_) fun c xs z=>?_
  ·rw [zi (fun y=>by subst y; rw [ha] at z; cases z)]; exact z
  ·rw [zi (fun y=>by subst y; rw [ha] at z; cases z)]; exact z
 have un1:Un (frs outer) [] H (jg H1 a) s.heap s1.heap:=by
  have u0:Un (frs outer) [] H H1 s.heap s1.heap:=I.base
  refine ⟨u0.keep,u0.slot,fun b o q n hx=>?_,u0.there,fun b xs q=>?_,fun b o u q=>?_,fun b ps q=>?_⟩
  ·rw [zi (Nat.ne_of_lt (Nat.lt_of_lt_of_le (Heap.lt_size q) hnew))]; exact u0.free b o q n hx
  ·have z:=u0.tups b xs q
   rw [zi (fun y=>by subst y; rw [ha] at z; cases z)]; exact z
  ·have z:=u0.frzs b o u q
   rw [zi (fun y=>by subst y; rw [ha] at z; cases z)]; exact z
  ·obtain ⟨m,z⟩:=u0.tbls b ps q
   exact ⟨m,by rw [zi (fun y=>by subst y; rw [ha] at z; cases z)]; exact z⟩
 have noB:B.get? a=none:=PySem.W.hideAll_none l List.mem_cons_self
 have ffB:s1.heap.FunFrames B (envOfC qual scope s.heap.objs.size f cd::outer):=ZS I.stack fun b hb=>PySem.W.hideAll_none l (List.mem_cons_of_mem _ hb)
 have Lne:∀ b∈frs outer,b≠s.heap.objs.size:=fun b hb z=>by
  obtain ⟨_,o,ho,_⟩:=(show s.heap.FunFrames base outer from I.ok.funs).mem hb
  have hlt:=Heap.lt_size ho
  rw [z] at hlt
  exact absurd hlt (Nat.lt_irrefl _)
 have LB:B.get? s.heap.objs.size=none:=PySem.W.hideAll_none l (List.mem_cons_of_mem _ (by show s.heap.objs.size∈frs (envOfC qual scope s.heap.objs.size f cd::outer); unfold frs; rw [List.filterMap_cons]; exact List.mem_cons_self))
 have aL:a≠s.heap.objs.size:=fun z=>by
  have:=I.free
  rw [show (qF (qJ cz P w) P w K mg base N qual scope f cd A outer s H E).env.locals=s.heap.objs.size from rfl,<- z,ha] at this
  cases this
 refine LX.qbn (cz:=cz) (env:=envOfC qual scope s.heap.objs.size f cd) (outer:=outer) (L:=s.heap.objs.size) (C:=C) (dx:=dx) (vs:=vs) I.ok.frames ffB rfl hob rfl rfl rfl hv hz stB noB fun h1 N1=>?_
 obtain ⟨m,hn,_⟩:=id I.loc
 have hn1:h1.Ns s.heap.objs.size m:=by
  obtain ⟨o,es,ep,ho,hd,r1,r2⟩:=hn
  obtain ⟨sl',e'⟩:=N1.up _ o ho (by rw [hd]; intro vs z; cases z)
  exact ⟨_,es,ep,e',hd,r1,r2⟩
 refine wpAny_nameGoes (m:=m) hln hn1 (by rw [show (envOfC qual scope s.heap.objs.size f cd).scope.kind=scope.kind from rfl,show scope.kind=.function from I.ok.kind]; rfl) fun h2 m2 hn2 sb=>?_
 have stB2:B.StaysIn h2:=fun b o q=>(sb.2 b fun z=>by rw [z] at q; rw [show B.get? (envOfC qual scope s.heap.objs.size f cd).locals=none from LB] at q; cases q).trans (N1.st b o q)
 obtain ⟨o2,es2,ep2,ho2,hd2,_,_⟩:=id hn2
 have ff2:h2.FunFrames B (envOfC qual scope s.heap.objs.size f cd::outer):=LX.qbC (fun b o q hnf=>by
  by_cases hb:b=s.heap.objs.size
  ·subst hb
   exact ⟨o2,ho2,fun vs z=>by rw [hd2] at z; cases z⟩
  ·exact ⟨o,(sb.2 b hb).trans q,hnf⟩) N1.ff
 have fly2:Fly cz B (envOfC qual scope s.heap.objs.size f cd::outer) a C dx (rawInt s.heap.objs.size) h2:=by
  obtain ⟨oe,vs',T,oT,ts,⟨he,hc,hdx,hd,hh1,hhz⟩,⟨hnT,hTe⟩,hT,hdT,h3⟩:=N1.tr
  have TL:T≠s.heap.objs.size:=fun z=>by
   subst z
   obtain ⟨o1,es1,ep1,ho1,hd1,_,_⟩:=hn1
   rw [hT] at ho1
   cases ho1
   rw [hdT] at hd1
   cases hd1
  exact ⟨stB2,noB,ff2,oe,vs',T,oT,ts,⟨(sb.2 a aL).trans he,hc,hdx,hd,hh1,hhz⟩,⟨hnT,hTe⟩,(sb.2 T TL).trans hT,hdT,h3⟩
 obtain ⟨oe,vs',T,oT,ts,⟨he,hc,hdx,hd,hh1,hhz⟩,⟨hnT,hTe⟩,hT,hdT,h3⟩:=fly2.tr
 unfold PySem.passOn
 refine wpAny_bind (wpAny_field (s:={ s1 with heap:=h2,toks:=s1.toks+1 }) he hd hh1 ?_)
 rw [if_neg (by simp)]
 refine wpAny_bind (LX.qcR (s:={ s1 with heap:=h2,toks:=s1.toks+1 }) (L:=s.heap.objs.size) fly2 fun h3 fly3 up3=>wpAny_throw ?_)
 refine LX.qbB (s:={ s1 with heap:=h3,toks:=s1.toks+1 }) (L:=s.heap.objs.size) rfl fly3 ?_
 obtain ⟨oe',vs'',T',oT',ts',⟨he',_,_,hd',hh1',_⟩,_⟩:=fly3.tr
 unfold cameBackBy
 refine wpAny_bind (wpAny_field (s:={ s1 with heap:=h3,toks:=s1.toks+1 }) he' hd' hh1' ?_)
 rw [if_neg (by simp)]
 refine LX.qcR (s:={ s1 with heap:=h3,toks:=s1.toks+1 }) (L:=s.heap.objs.size) fly3 fun h3' fly3' up3'=>?_
 show wpAny (model P w) (A.deeper (envOfC qual scope s.heap.objs.size f cd)) (leaving (envOfC qual scope s.heap.objs.size f cd) (.ref a)) (fun _ s''=>qJ cz P w outer H s E (.ref a) s'') (fun e' s''=>qJ cz P w outer H s E e' s'') { s1 with heap:=h3',toks:=s1.toks+1 }
 unfold leaving
 refine wpAny_bind (LX.qbB (s:={ s1 with heap:=h3',toks:=s1.toks+1 }) (L:=s.heap.objs.size) rfl fly3' ?_)
 refine LX.Qj (s:={ s1 with heap:=h3',toks:=s1.toks+1 }) fly3' fun h4 fly4 up4=>?_
 have upf:∀ b∈frs outer,∀ o,s1.heap.get? b=some o->(∀ vs,o.data≠.fields vs)->∃ sl,h4.get? b=some { o with slots:=sl }:=fun b hb o q hnf=>by
  obtain ⟨sl1,q1⟩:=N1.up b o q hnf
  have q2:=(sb.2 b (Lne b hb)).trans q1
  obtain ⟨sl2,q3⟩:=up3 b _ q2 hnf
  obtain ⟨sl3,q4⟩:=up3' b _ q3 hnf
  obtain ⟨sl4,q5⟩:=up4 b _ q4 hnf
  exact ⟨sl4,q5⟩
 exact ⟨a,C,dx,jg H1 a,B,rfl,I.os,I.bare,qj4 un1 stB fly4.st c1' upf (jA ffB.2.2),J9 ok1 stB fly4.st c2,LX.qa1 fly4,c1',c2,Qb,hE⟩
end
end L2
end
section
namespace L2
open PySem PySem.Spec PyProof.Rows
open LX (Fly Under XC jJ)
theorem qi5 {X:Cx} {pins:List (Addr × Obj)} {σ : St} {H:Hp} {s:Shared} {e C:Addr} {vs vs':Array Value} {d:Option Addr} {sl:Array (Option Value)} {h':Heap} (I:Inv X pins σ H s) (he:H e=some (XOb e C vs d)) (q1:h'.get? e=some ⟨.ref C,d,.fields vs',sl⟩) (q3:∀ b,b≠e->h'.get? b=s.heap.get? b) :
  Inv X pins σ (upd H e (XOb e C vs' d)) { s with heap:=h' }:=by
 have un:Un X.fs [] H (upd H e (XOb e C vs' d)) s.heap h':=by
  have ne:∀ b,H b=none->b≠e:=fun b q z=>by subst z; rw [he] at q; cases q
  have nx:∀ b u,H b=some u->(∀ φ,u≠.ext φ)->b≠e:=fun b u q hu z=>by subst z; rw [he] at q; cases q; exact hu _ rfl
  refine ⟨fun b o q n1 _ _=>(q3 b (ne b n1)).trans q,fun b o q n1 _ _=>⟨o.slots,(q3 b (ne b n1)).trans q⟩,fun b o q n1 _=>?_,fun b o q _=>?_,fun b xs q=>?_,fun b o w' q=>?_,fun b ps q=>⟨#[],?_⟩⟩
  ·rw [qa (ne b n1)]; exact n1
  ·by_cases z:b=e
   ·subst z; exact ⟨_,q1⟩
   ·exact ⟨o,(q3 b z).trans q⟩
  ·rw [qa (nx b _ q (fun φ z=>by cases z))]; exact q
  ·rw [qa (nx b _ q (fun φ z=>by cases z))]; exact q
  ·rw [qa (nx b _ q (fun φ z=>by cases z)),q]; simp
 refine I.un (t':=s.toks) un fun b w' q=>?_
 by_cases z:b=e
 ·subst z
  rw [qd] at q
  cases q
  exact Z0 q1
 ·rw [qa z] at q
  refine (I.hok b w' q).stay (fun c u' hc' r=>(q3 c ?_).trans r) (fun c r=>?_) fun c xs r=>?_
  ·rcases hc' with rfl | hc'
   ·exact z
   ·intro y'; subst y'; rw [he] at hc'; cases hc'
  ·rw [qa (fun y'=>by subst y'; rw [he] at r; cases r)]; exact r
  ·rw [qa (fun y'=>by subst y'; rw [he] at r; cases r)]; exact r
theorem qi6 {H:Hp} {a:Addr} {o:HO}:jg (upd H a o) a=jg H a:=by
 funext b
 by_cases h:b=a
 ·subst h; rw [Qb,Qb]
 ·rw [zi h,zi h,qa h]
section
variable {P:Program} {w:World} {K:PySem.W.Frag} {mg:Str->Option Value} {base:Heap} {N:List Str} {qual:Str} {scope:Scope} {f0:Addr} {cd:Value} {A:Around} {outer:List Env} {s0:Shared} {H0:Hp} {E:XK}
def qkE (K:PySem.W.Frag) (S C2:Addr) (spI:Sp) (E:XK) (tb:XK->TS):TS:=fun D σ H=>tb (fun c dx H'=>∃ C d,c=.ref C/\dx=some d/\zV K C/\subB K C S /\
 ∀ a xs e ta,H' a=none->e≠a->H' e=none->spI [.ref e,.ref a] (upd (upd H' a (XOb a C xs (some d))) e (XOb e C2 (xv ta) none)) (fun v H2=>v=.non/\∃ dx2,H2 e=some (XOb e C2 (xv ta) (some dx2))/\H2 a=some (XOb a C xs (some d))/\E (.ref C2) (some dx2) (jg H2 e)) E0) D σ H
theorem qfW {X:Cx} (hX:X=qF (qJ False P w) P w K mg base N qual scope f0 cd A outer s0 H0 E) {rx n x:Str} {i k:Nat} {S C2 fI:Addr} {fdI:FuncData} {psI:List Str} {spI:Sp} {body:List Stmt} {tb:XK->TS} {np np2 np3 cp cpos rpos hpos pos:Pos}
  (hN:X.N.Nodup) (hi:X.N[i]? = some n) (hl:X.env.scope.names.lookup n=some .local) (hg:Gl X rx) (hm:X.mg rx=some (.ref S)) (cS:zV X.K S)
  (hb:∀ (xe:Value->Shared->Prop) (pn:List (Addr × Obj)) (E1:XK),zT (qJ True X.prog X.w) (X.tr xe pn) E1->PSs (X.tr xe pn) body (tb E1))
  (M2:XMk X.K C2 fI) (F:Q0 X.prog X.w X.K X.mg X.base CX0 k fI fdI psI spI) (hr:qE (k+1) X.A) (hbI:Binds X.K fdI psI []) (hgx:Gl X x) (hmx:X.mg x=some (.ref C2))
  (hdb:(rx == ("__debug__" : Str))=false:=by decide) (hdx:(x == ("__debug__" : Str))=false:=by decide) (hdn:(n == ("__debug__" : Str))=false:=by decide) (hcn:(n == ("__classdict__" : Str))=false:=by decide)
  (he:starEach [.Name n np3] X.env=(false,eval (.Name n np3) X.env)::starEach [] X.env:=by rfl) :
  PS X (.Try body [.ExceptHandler (some (.Name rx np)) (some n) [.Raise (some (.Call (.Name x np2) [.Name n np3] [] cpos)) (some (.Name n cp)) rpos] hpos] [] [] pos) (qkE X.K S C2 spI E tb):=by
 have hex:X.ex=[]:=by rw [hX]; rfl
 have hst:X.stack=X.env::X.outer:=by rw [hX]; rfl
 have hfr:X.env.frame=some X.env.locals:=by rw [hX]; rfl
 intro pins s σ H D I h
 refine wpAny_Try_except ?_
 let xe:Value->Shared->Prop:=fun e s1=>wpAny (model X.prog X.w) X.A (noteFrame e X.env) (fun _ s2=>wpAny (model X.prog X.w) X.A (setFlight e none) (fun _ s3=>
  wpAny (model X.prog X.w) X.A (handleBy e X.env [.ExceptHandler (some (.Name rx np)) (some n) [.Raise (some (.Call (.Name x np2) [.Name n np3] [] cpos)) (some (.Name n cp)) rpos] hpos]) (SP X pins D) X.xe s3) X.xe s2) X.xe s1
 refine wpAny_mono (hb xe (X.pn++pins) _ ?_ [] s σ H D (I.tr xe) h) (fun f s1 q=>?_) fun e s1 q=>q
 ·intro pins' σ1 H1 s1 e s2 I1 hx
  obtain ⟨a,C,dx,H',B,rfl,hos,hbare,un,hok,fly,c1,c2,hna,C',d',eC,ed,cC,sC,suit⟩:=hx
  cases eC
  cases ed
  have fly:Fly True B (X.env::X.outer) a C dx .none s2.heap:=by rw [<- hst]; exact fly
  have frs_eq:frs X.stack=frs (X.env::X.outer):=by rw [hst]
  show wpAny (model X.prog X.w) X.A (noteFrame (.ref a) X.env) _ _ s2
  have Afr:X.A.frames=some (X.env::X.outer):=by rw [<- hst]; exact I.ok.frames
  have nof:∀ b∈frs X.stack,∀ o,s2.heap.get? b=some o->∀ vs,o.data≠.fields vs:=by rw [frs_eq]; exact jA fly.ff
  have at_:∀ h2,Fly True B (X.env::X.outer) a C dx .none h2->s2.heap.UpToSlots h2->Inv X pins σ1 H' { s2 with heap:=h2 }:=fun h2 fly2 up=>
   (I1.call' (s':={ s2 with heap:=h2 }) (ch:=[]) hos (qdz un fly.st fly2.st c1 up nof) (J9 hok fly.st fly2.st c2) hbare fun b z=>absurd z (by simp)).untr
  refine wpAny_mono (LX.qcG (Q:=fun _ s3=>∃ h2,s3={ s2 with heap:=h2 }/\Fly True B (X.env::X.outer) a C dx .none h2/\s2.heap.UpToSlots h2) (E:=X.xe) Afr hfr fly fun h2 f2 u2=>⟨h2,rfl,f2,u2⟩) (fun _ s3 z=>?_) fun _ _ z=>z
  refine thn z fun _ s4 ⟨h2,e4,fly2,up2⟩=>?_
  subst e4
  have J2:=at_ h2 fly2 up2
  obtain ⟨oe,vs,T,oT,tsr,⟨hoe,hcl,hdi,hda,_,_⟩,_⟩:=fly2.tr
  obtain ⟨nmS,qS,NS,bsS,bmS,hdS,snS,subS,abS,colS,ddS,j0,j1,j2,j3,j5,US,_,hS⟩:=cS.xc
  obtain ⟨cdC,bmC,hcdC,_,_,emC,_,nmC,qC,NC,bsC,hdC,snC,subC,abC,colC,ddC,k0,k1,k2,k3,k5,lkC⟩:=cC.out
  refine wpAny_handleBy_cons (codeAny_handlers_test (jW (X:=X.sut a) (J2.sut a) hg hm ?_ hdb)) (by intro q; cases q)
  obtain ⟨hp,g,dd,tk,os⟩:=s2
  refine LX.qcH US (J2.kIn _ _ lkC) (hS _ J2.kIn) ?_ hoe hcl ?_
  ·obtain ⟨cd,e1,e2⟩:=sC
   rw [hcdC] at e1
   cases e1
   rw [emC] at e2
   exact e2
  show codeAny _ _ _ _ _
  refine codeAny_handlers_suite_as (LX.Qj (s:=⟨h2,g,dd,tk,os⟩) fly2 fun h3 fly3 up3=>?_)
  have J3:Inv X pins σ1 H' ⟨h3,g,dd,tk,os⟩:=at_ h3 fly3 (up2.trans up3)
  obtain ⟨oe,vs,T,oT,tsr,⟨hoe,hcl,hdi,hda,_,hz3⟩,_⟩:=fly3.tr
  obtain ⟨oec,oed,oedt,oes⟩:=oe
  cases hcl
  cases hdi
  cases hda
  have notIn:∀ b o,s1.heap.get? b=some o->b≠a:=fun b o q z=>by
   subst z
   by_cases hb:b∈frs X.stack
   ·obtain ⟨ob,qb⟩:∃ ob,hp.get? b=some ob:=un.there b o q (by simp)
    obtain ⟨oe2,vs2,_,_,_,⟨z1,_,_,z4,_,_⟩,_⟩:=fly.tr
    exact nof b hb oe2 z1 vs2 z4
   ·obtain ⟨o',eo⟩:=c1 b o q hb
    rw [fly.nw] at eo
    cases eo
  have K3:Inv X pins (List.replicate X.N.length none) (upd H' a (XOb a C vs (some dx))) ⟨h3,g,dd,tk,os⟩:=by
   refine (Jk J3).track hna ?_ ?_ ?_ ?_ (Z0 hoe)
   ·cases q0:X.s_0.heap.get? a with
    | none=>rfl
    | some o=>
     obtain ⟨o1,q1⟩:=I1.base.there a o q0 (by show a∉X.ex; rw [hex]; simp)
     exact absurd rfl (notIn a o1 q1)
   ·intro z
    obtain ⟨m,⟨o,_,_,ho,_⟩,_⟩:=I1.loc
    exact notIn _ o ho z.symm
   ·intro x c q z
    obtain ⟨v,o,ho,_⟩:=I1.cell x c q
    exact notIn _ o ho z
   ·intro p hp' z
    exact notIn _ _ (I1.pin p (List.mem_append_left _ hp')).1 z
  refine Zo (X:=X.sut a) (K3.sut a) hN hi (.inl hl) (v:=V.ref a) rfl (fun s5 I5=>?_) (.inr hl)
  have hil:i<X.N.length:=(List.getElem?_eq_some_iff.mp hi).1
  have hσ : ((List.replicate X.N.length (none:Option V)).set i (some (V.ref a)))[i]? = some (some (V.ref a)):=by
   rw [List.getElem?_set_self (by rw [List.length_replicate]; exact hil)]
  have vis:Vis (X.sut a).env.scope n:=.inl hl
  refine wpAny_execs_cons ?_
  rw [arm_exec_Raise]
  refine wpAny_bind (wpAny_standAt ?_)
  obtain ⟨nm2,q2,N2,bs2,bm2,hd2,sn2,sub2,ab2,col2,dd2,l0,l1,l2,l3,l5,U2,_,hC2⟩:=M2.cls.xc
  obtain ⟨nm3,q3,N3,bs3,bm3,hd3,sn3,sub3,ab3,col3,dd3,m0,m1,m2,m3,m5,U3,_,hC3⟩:=cC.xc
  refine LX.qeX (a:=a) (C:=C2) (C':=C) (nm:=nm2) (q:=q2) (N:=N2) (bs:=bs2) (hdct:=hd2) (sn:=sn2) (sub:=sub2) (ab:=ab2) (col:=col2) (dd:=dd2) (k0:=l0) (k1:=l1) (k2:=l2) (k3:=l3) (k5:=l5) (nm':=nm3) (q':=q3) (N':=N3) (bs':=bs3) (hdct':=hd3) (sn':=sn3) (sub':=sub3) (ab':=ab3) (col':=col3) (dd':=dd3) (j0:=m0) (j1:=m1) (j2:=m2) (j3:=m3) (j5:=m5) U2 U3 rfl ?_
  refine wpAny_bind (wpAny_mono (E:=(X.sut a).xe) (Q:=fun v s6=>∃ (e ta dx2:Addr) (H2:Hp),v=.ref e/\Inv (X.sut a) pins ((List.replicate X.N.length none).set i (some (V.ref a))) H2 s6/\X.s_0.heap.objs.size<=e/\upd H' a (XOb a C vs (some dx)) e=none/\H2 e=some (XOb e C2 (xv ta) (some dx2))/\H2 a=some (XOb a C vs (some dx))/\E (.ref C2) (some dx2) (jg H2 e)) ?_ (fun v s6 z=>wpAny_bind (wpAny_standAt (wpAny_pure ?_))) fun _ _ z=>z.elim)
  ·refine wpAny_Call_Name_kw (jW (X:=X.sut a) I5 hgx hmx ?_ hdx)
   refine PySem.W.callWith_K (h₀:=X.base) I5.ok.mod.kin M2.kp (thn ((qc (qdG (X:=X.sut a) hi vis hdn hcn) qh he) cpos pins s5 _ _ (fun vs' H6=>vs'=[V.ref a]/\H6=upd H' a (XOb a C vs (some dx))) I5 ⟨_,hσ,rfl,rfl⟩) fun us s6 ⟨vs',H6,I6,r,e1,e2⟩=>⟨I6.kIn,?_⟩) he rfl
   subst e1 e2
   refine wpAny_mono (qfV (X:=X.sut a) (Qe:=fun e ta dx2 H2=>H2 a=some (XOb a C vs (some dx))/\E (.ref C2) (some dx2) (jg H2 e)) M2 F (hr.mark _) hbI I6 r (by show 1<=1000; decide) fun e ta hen=>?_) (fun v s7 ⟨e,ta,dx2,H2,ev,I7,hsz,hen,z1,z2,z3⟩=>⟨e,ta,dx2,H2,ev,I7,?_,hen,z1,z2,z3⟩) fun _ _ z=>z
   ·have hea:e≠a:=fun z=>by rw [z,qd] at hen; cases hen
    exact suit a vs e ta hna hea (by rw [qa hea] at hen; exact hen)
   ·exact Nat.le_trans I6.sz hsz
  obtain ⟨e,ta,dx2,H2,rfl,I6,hsz,hen,z1,z2,z3⟩:=z
  have hea:e≠a:=fun z=>by rw [z,qd] at hen; cases hen
  refine wpAny_bind (wpAny_mono (E:=(X.sut a).xe) ((qdG (X:=X.sut a) hi vis hdn hcn) pins s6 _ _ (fun v' H6=>v'=V.ref a/\H6=H2) I6 ⟨_,hσ,rfl,rfl⟩) (fun cv s7 ⟨v',H6,I7,rv,e1,e2⟩=>wpAny_bind (wpAny_standAt (wpAny_pure ?_))) fun _ _ z=>z.elim)
  subst e1 e2
  obtain rfl:cv=Value.ref a:=rv
  obtain ⟨sl,ho⟩:=I7.hok.xob z1
  obtain ⟨sla,hoa⟩:=I7.hok.xob z2
  refine ⟨e,ta,some dx2,sl,_,vs,rfl,rfl,hea,hC2 _ I7.kIn,hC3 _ I7.kIn,ho,hoa,rfl,rfl,hz3 True.intro,fun h' g1 g2 g3=>?_⟩
  have I8:=qi5 (I7.unsut I.ok.hd) z1 g1 g2
  subst hX
  exact qi4 (cz:=False) I8 qd rfl (fun z=>z.elim) hsz (by rw [qi6]; exact z3) hl
 ·cases f with
  | next=>exact wpAny_execs_nil q.untr
  | ret v=>exact q.untr
  | brk=>exact q.untr
  | cont=>exact q.untr
end
end L2
end
section
section
namespace L2
open PySem PySem.Spec PyProof.Rows
open PySem.W (WData Codec OpenSpec Well WellAll ReadsW ReadsAllW)
mutual
inductive Dw (K:PySem.W.Frag) (H:Hp):V->WData->Prop
 | non:Dw K H .non .none
 | bl (b:Bool):Dw K H (.bl b) (.bool b)
 | int (i:Int):Dw K H (.int i) (.int i)
 | str (x:Str):Dw K H (.str x) (.str x)
 | byt (b:Array UInt8):Dw K H (.byt b) (.bytes b.toList)
 | lst {a:Addr} {xs:List V} {ds:List WData}:SqL K H a xs->Qx K H xs ds->Dw K H (.ref a) (.list ds)
 | tup {a:Addr} {xs:List V} {ds:List WData}:SqT K H a xs->Qx K H xs ds->Dw K H (.ref a) (.tuple ds)
inductive Qx (K:PySem.W.Frag) (H:Hp):List V->List WData->Prop
 | nil:Qx K H [] []
 | cons {v:V} {vs:List V} {d:WData} {ds:List WData}:Dw K H v d->Qx K H vs ds->Qx K H (v::vs) (d::ds)
end
theorem qfr {K:PySem.W.Frag} {H:Hp}:∀ ns:List Int,Qx K H (ns.map V.int) (ns.map WData.int)
 | []=>.nil
 | n::r=>.cons (.int n) (qfr r)
theorem qca {K:PySem.W.Frag} {H:Hp}:∀ (ns:List Int) (xs:List V),Qx K H xs (ns.map WData.int)->xs=ns.map V.int
 | [],xs,h=>by
  cases h
  rfl
 | n::r,xs,h=>by
  cases h with
  | cons h1 h2=>
   cases h1
   rw [qca r _ h2] <;> rfl
section
variable {P:Program} {w:World} {K:PySem.W.Frag} {H:Hp} {h:Heap} {R:PySem.W.WRecords} {cl:Str->Option Addr}
theorem qj5 {a:Addr} {xs:List V} (hok:HOk P w H h) (KX:K.In h) (q:SqL K H a xs):∃ (its:List Value) (o:Obj) (n:Nat),qv xs its/\h.get? a=some o/\o.cls=.type "list" /\ o.data=.seq its.toArray n:=by
 rcases q with q | ⟨o,its,n,e,hc,_,hd,_,hv⟩
 ·obtain ⟨_,its,n,hv,e⟩:=(show zq P w H h a (.lst xs) from q.ok hok)
  exact ⟨its,_,n,hv,e,rfl,rfl⟩
 ·exact ⟨its.toList,o,n,hv,KX _ _ e,hc,by simp [hd]⟩
theorem qj6 {a:Addr} {xs:List V} (hok:HOk P w H h) (KX:K.In h) (q:SqT K H a xs):∃ (its:List Value) (o:Obj) (n:Nat),qv xs its/\h.get? a=some o/\o.cls=.type "tuple" /\ o.data=.seq its.toArray n:=by
 rcases q with q | ⟨o,its,n,e,hc,hd,_,hv⟩
 ·obtain ⟨_,its,hv,o,e,hc,n,hd⟩:=(show zq P w H h a (.tup xs) from q.ok hok)
  exact ⟨its,o,n,hv,e,hc,hd⟩
 ·exact ⟨its.toList,o,n,hv,KX _ _ e,hc,by simp [hd]⟩
mutual
theorem Dw.reads (hok:HOk P w H h) (KX:K.In h):∀ (d:WData) (v:V) (u:Value),Dw K H v d->RelV v u->∃ as,ReadsW R cl h u d as
 | .none,_,_,x,r=>by
  cases x
  cases r
  exact ⟨_,ReadsW.none⟩
 | .bool b,_,_,x,r=>by
  cases x
  cases r
  exact ⟨_,ReadsW.bool b⟩
 | .int i,_,_,x,r=>by
  cases x
  obtain ⟨t,rfl⟩:=r
  exact ⟨_,ReadsW.int i t⟩
 | .str s,_,_,x,r=>by
  cases x
  obtain ⟨t,rfl⟩:=r
  exact ⟨_,ReadsW.str s t⟩
 | .bytes b,_,_,x,r=>by
  cases x
  obtain ⟨t,rfl⟩:=r
  exact ⟨_,ReadsW.bytes _ t⟩
 | .list ds,_,_,x,r=>by
  cases x with
  | lst hs ha=>
   cases r
   obtain ⟨its,o,n,rv,ho,hc,hd⟩:=qj5 hok KX hs
   obtain ⟨as,hr⟩:=Dw.readsAll hok KX ds _ its ha rv
   exact ⟨_,ReadsW.list ho hc hd hr⟩
 | .tuple ds,_,_,x,r=>by
  cases x with
  | tup hs ha=>
   cases r
   obtain ⟨its,o,n,rv,ho,hc,hd⟩:=qj6 hok KX hs
   obtain ⟨as,hr⟩:=Dw.readsAll hok KX ds _ its ha rv
   exact ⟨_,ReadsW.tuple ho hc hd hr⟩
 | .float _,_,_,x,_=>by cases x
 | .dict _,_,_,x,_=>by cases x
 | .bytearray _,_,_,x,_=>by cases x
 | .set _,_,_,x,_=>by cases x
 | .frozenset _,_,_,x,_=>by cases x
 | .obj _ _,_,_,x,_=>by cases x
theorem Dw.readsAll (hok:HOk P w H h) (KX:K.In h):∀ (ds:List WData) (vs:List V) (us:List Value),Qx K H vs ds->qv vs us->∃ as,ReadsAllW R cl h us ds as
 | [],_,_,x,r=>by
  cases x
  cases r
  exact ⟨_,ReadsAllW.nil⟩
 | d::ds,_,_,x,r=>by
  cases x with
  | cons h1 h2=>
   cases r with
   | cons r1 r2=>
    obtain ⟨as,q1⟩:=Dw.reads hok KX d _ _ h1 r1
    obtain ⟨bs,q2⟩:=Dw.readsAll hok KX ds _ _ h2 r2
    exact ⟨_,ReadsAllW.cons q1 q2⟩
end
end
mutual
def plW:WData->Bool
 | .none=>true
 | .bool _=>true
 | .int _=>true
 | .str _=>true
 | .bytes _=>true
 | .list xs=>Zf xs
 | .tuple xs=>Zf xs
 | _=>false
def Zf:List WData->Bool
 | []=>true
 | x::r=>plW x&&Zf r
end
theorem qd3 {α : Type} {f:α -> WData} (h:∀ a,plW (f a)=true):∀ l:List α,Zf (l.map f)=true
 | []=>rfl
 | x::r=>by
  show (plW (f x)&&Zf (r.map f))=true
  rw [h x,qd3 h r] <;> rfl
theorem Za:∀ (c:Codec) (a:c.denote),plW (c.enc a)=true
 | .unit,_=>rfl
 | .bool,_=>rfl
 | .int _ _,_=>rfl
 | .nat _ _,_=>rfl
 | .u8,_=>rfl
 | .bytes _ _,_=>rfl
 | .text _ _ _ _,_=>rfl
 | .list _ _ c,a=>qd3 (fun x=>Za c x) a
 | .pair c d,a=>by
  show (plW (c.enc a.1)&&(plW (d.enc a.2)&&true))=true
  rw [Za c a.1,Za d a.2] <;> rfl
 | .triple c d e,a=>by
  show (plW (c.enc a.1)&&(plW (d.enc a.2.1)&&(plW (e.enc a.2.2)&&true)))=true
  rw [Za c a.1,Za d a.2.1,Za e a.2.2] <;> rfl
 | .option c,none=>rfl
 | .option c,some x=>Za c x
theorem qcS:∀ (cs:List Codec) (a:Codec.denoteAll cs),Zf (Codec.encAll cs a)=true
 | [],_=>rfl
 | c::cs,a=>by
  show (plW (c.enc a.1)&&Zf (Codec.encAll cs a.2))=true
  rw [Za c a.1,qcS cs a.2] <;> rfl
theorem Jl:∀ {xs:List WData} {d:WData},d∈xs->d.weight<=WData.weightAll xs
 | [],d,h=>absurd h (by simp)
 | x::r,d,h=>by
  show d.weight<=x.weight+1+WData.weightAll r
  rcases List.mem_cons.mp h with e | m
  ·rw [e]
   omega
  ·have z:=Jl m
   omega
def toV:Value->V
 | .none=>.non
 | .bool b=>.bl b
 | .int i _=>.int i
 | .str x _=>.str x
 | .bytes b _=>.byt b
 | .ref a=>.ref a
 | _=>.non
def OkU (A:List Addr):Value->Prop
 | .none=>True
 | .bool _=>True
 | .int _ _=>True
 | .str _ _=>True
 | .bytes _ _=>True
 | .ref a=>a∈A
 | _=>False
theorem OkU.mono {A B:List Addr} (h:∀ a∈A,a∈B):∀ {u:Value},OkU A u->OkU B u:=fun {u} x=>by
 cases u with
 | ref a=>exact h a x
 | none=>trivial
 | bool b=>trivial
 | int i t=>trivial
 | str s t=>trivial
 | bytes b t=>trivial
 | _=>exact False.elim x
theorem qhX {A:List Addr} {u:Value} (x:OkU A u):RelV (toV u) u:=by
 cases u with
 | ref a=>rfl
 | none=>rfl
 | bool b=>rfl
 | int i t=>exact ⟨t,rfl⟩
 | str s t=>exact ⟨t,rfl⟩
 | bytes b t=>exact ⟨t,rfl⟩
 | _=>exact False.elim x
theorem QT {A:List Addr}:∀ {vs:List Value},(∀ u∈vs,OkU A u)->qv (vs.map toV) vs
 | [],_=>.nil
 | u::r,h=>.cons (qhX (h u (List.mem_cons_self ..))) (QT fun x hx=>h x (List.mem_cons_of_mem _ hx))
def Qy (h:Heap) (A:List Addr) (a:Addr):Prop:=∃ vs:List Value,vs.length<=sizeLine/\(∀ u∈vs,OkU A u) /\
 (h.get? a=some { cls:=.type "list",data:=.seq vs.toArray } \/ h.get? a=some { cls:=.type "tuple",data:=.seq vs.toArray })
theorem Qy.mono {h:Heap} {A B:List Addr} {a:Addr} (k:∀ a∈A,a∈B) (x:Qy h A a):Qy h B a:=by
 obtain ⟨vs,h1,h2,h3⟩:=x
 exact ⟨vs,h1,fun u hu=>(h2 u hu).mono k,h3⟩
theorem Q1 {P:Params} {h:Heap}:∀ {vs:List Value} {ds:List WData},WellAll P h vs ds->vs.length=ds.length
 | _,_,.nil=>rfl
 | _,_,.cons _ b=>by
  show _+1=_+1
  rw [Q1 b]
theorem qcT {P:Params} {h:Heap} {v:Value} {ds:List WData} (x:Well P h v (.list ds)):∃ (a:Addr) (vs:List Value),v=.ref a/\h.get? a=some { cls:=.type "list",data:=.seq vs.toArray }/\WellAll P h vs ds:=by
 cases x with
 | list ho hall=>exact ⟨_,_,rfl,ho,hall⟩
theorem qbD {P:Params} {h:Heap} {v:Value} {ds:List WData} (x:Well P h v (.tuple ds)):∃ (a:Addr) (vs:List Value),v=.ref a/\h.get? a=some { cls:=.type "tuple",data:=.seq vs.toArray }/\WellAll P h vs ds:=by
 cases x with
 | tuple ho hall=>exact ⟨_,_,rfl,ho,hall⟩
theorem qcU {P:Params} {h:Heap} {us:List Value} {d:WData} {ds:List WData} (x:WellAll P h us (d::ds)):∃ (v:Value) (vs:List Value),us=v::vs/\Well P h v d/\WellAll P h vs ds:=by
 cases x with
 | cons a b=>exact ⟨_,_,rfl,a,b⟩
theorem qfs {n:Nat} (h:n<=1048576):n<=sizeLine:=Nat.le_trans h (by decide)
section
variable {P:Params} {h:Heap}
mutual
theorem qhY:∀ (d:WData) (v:Value),Well P h v d->plW d=true->d.weight<=1048576->∃ A:List Addr,OkU A v/\∀ a∈A,Qy h A a
 | .none,_,x,_,_=>by
  cases x
  exact ⟨[],trivial,fun a m=>absurd m (by simp)⟩
 | .bool b,_,x,_,_=>by
  cases x
  exact ⟨[],trivial,fun a m=>absurd m (by simp)⟩
 | .int i,_,x,_,_=>by
  cases x
  exact ⟨[],trivial,fun a m=>absurd m (by simp)⟩
 | .str s,_,x,_,_=>by
  cases x
  exact ⟨[],trivial,fun a m=>absurd m (by simp)⟩
 | .bytes b,_,x,_,_=>by
  cases x
  exact ⟨[],trivial,fun a m=>absurd m (by simp)⟩
 | .list ds,_,x,p,z=>by
  obtain ⟨a,vs,rfl,ho,hall⟩:=qcT x
  have z2:WData.weightAll ds<=1048576:=z
  obtain ⟨A,h1,h2⟩:=Jm ds _ hall p fun d hd=>Nat.le_trans (Jl hd) z2
  have k:∀ b∈A,b∈a::A:=fun b hb=>List.mem_cons_of_mem _ hb
  refine ⟨a::A,List.mem_cons_self ..,fun b hb=>?_⟩
  rcases List.mem_cons.mp hb with e | m
  ·rw [e]
   exact ⟨vs,qfs (by rw [Q1 hall]; exact Nat.le_trans (PySem.W.length_le_weightAllW ds) z2),fun u hu=>(h1 u hu).mono k,.inl ho⟩
  ·exact (h2 b m).mono k
 | .tuple ds,_,x,p,z=>by
  obtain ⟨a,vs,rfl,ho,hall⟩:=qbD x
  have z2:WData.weightAll ds<=1048576:=z
  obtain ⟨A,h1,h2⟩:=Jm ds _ hall p fun d hd=>Nat.le_trans (Jl hd) z2
  have k:∀ b∈A,b∈a::A:=fun b hb=>List.mem_cons_of_mem _ hb
  refine ⟨a::A,List.mem_cons_self ..,fun b hb=>?_⟩
  rcases List.mem_cons.mp hb with e | m
  ·rw [e]
   exact ⟨vs,qfs (by rw [Q1 hall]; exact Nat.le_trans (PySem.W.length_le_weightAllW ds) z2),fun u hu=>(h1 u hu).mono k,.inr ho⟩
  ·exact (h2 b m).mono k
 | .float _,_,_,p,_=>Bool.noConfusion (show false=true from p)
 | .dict _,_,_,p,_=>Bool.noConfusion (show false=true from p)
 | .bytearray _,_,_,p,_=>Bool.noConfusion (show false=true from p)
 | .set _,_,_,p,_=>Bool.noConfusion (show false=true from p)
 | .frozenset _,_,_,p,_=>Bool.noConfusion (show false=true from p)
 | .obj _ _,_,_,p,_=>Bool.noConfusion (show false=true from p)
theorem Jm:∀ (ds:List WData) (vs:List Value),WellAll P h vs ds->Zf ds=true->(∀ d∈ds,d.weight<=1048576)->∃ A:List Addr,(∀ u∈vs,OkU A u)/\∀ a∈A,Qy h A a
 | [],_,x,_,_=>by
  cases x
  exact ⟨[],fun u m=>absurd m (by simp),fun a m=>absurd m (by simp)⟩
 | d::ds,_,x,p,z=>by
  obtain ⟨v,vs,rfl,x1,x2⟩:=qcU x
  have q:plW d=true/\Zf ds=true:=Bool.and_eq_true_iff.mp p
  obtain ⟨A,a1,a2⟩:=qhY d v x1 q.1 (z d (List.mem_cons_self ..))
  obtain ⟨B,b1,b2⟩:=Jm ds vs x2 q.2 fun e he=>z e (List.mem_cons_of_mem _ he)
  have kA:∀ b∈A,b∈A++B:=fun b hb=>List.mem_append.mpr (.inl hb)
  have kB:∀ b∈B,b∈A++B:=fun b hb=>List.mem_append.mpr (.inr hb)
  refine ⟨A++B,fun u hu=>?_,fun b hb=>?_⟩
  ·rcases List.mem_cons.mp hu with e | m
   ·rw [e]
    exact a1.mono kA
   ·exact (b1 u m).mono kB
  ·rcases List.mem_append.mp hb with m | m
   ·exact (a2 b m).mono kA
   ·exact (b2 b m).mono kB
end
end
def qfX (o:Obj):Option HO:=match o.data with
 | .seq vs _=>if (o.cls == Value.type "list")=true then some (.frz o (.lst (vs.toList.map toV))) else some (.frz o (.tup (vs.toList.map toV)))
 | _=>none
def jS (K:PySem.W.Frag) (h:Heap) (A:List Addr):Hp:=fun b=>if b∈A then (if (K.lookup b).isNone=true then (h.get? b).bind qfX else none) else none
def qbE (H:Hp):Prop:=∀ b,H b=none \/ ∃ o u,H b=some (.frz o u)
theorem qd4 (vs:List Value):qfX { cls:=.type "list",data:=.seq vs.toArray }=some (.frz { cls:=.type "list",data:=.seq vs.toArray } (.lst (vs.map toV))):=by
 show (if (Value.type "list" == Value.type "list")=true then some (HO.frz { cls:=.type "list",data:=.seq vs.toArray } (.lst (vs.toArray.toList.map toV))) else some (HO.frz { cls:=.type "list",data:=.seq vs.toArray } (.tup (vs.toArray.toList.map toV))))=_
 rw [if_pos (beq_self_eq_true _)]
theorem qd5 (vs:List Value):qfX { cls:=.type "tuple",data:=.seq vs.toArray }=some (.frz { cls:=.type "tuple",data:=.seq vs.toArray } (.tup (vs.map toV))):=by
 show (if (Value.type "tuple" == Value.type "list")=true then some (HO.frz { cls:=.type "tuple",data:=.seq vs.toArray } (.lst (vs.toArray.toList.map toV))) else some (HO.frz { cls:=.type "tuple",data:=.seq vs.toArray } (.tup (vs.toArray.toList.map toV))))=_
 rw [if_neg (by decide)]
section
variable {P:Program} {w:World} {K:PySem.W.Frag} {h:Heap} {A:List Addr}
theorem qaG {b:Addr} {o:Obj} (hb:b∈A) (hk:K.lookup b=none) (e:h.get? b=some o):jS K h A b=qfX o:=by
 unfold jS
 rw [if_pos hb,hk,if_pos (show (none:Option Obj).isNone=true from rfl),e] <;> rfl
theorem qi7 {b:Addr} {u:HO} (q:jS K h A b=some u):b∈A/\K.lookup b=none:=by
 unfold jS at q
 by_cases hb:b∈A
 ·rw [if_pos hb] at q
  cases hk:K.lookup b with
  | none=>exact ⟨hb,rfl⟩
  | some o=>
   rw [hk,if_neg (by simp)] at q
   cases q
 ·rw [if_neg hb] at q
  cases q
theorem qaH (ar:∀ a∈A,Qy h A a) {b:Addr} {u:HO} (q:jS K h A b=some u):K.lookup b=none/\∃ vs:List Value,vs.length<=sizeLine/\(∀ u∈vs,OkU A u) /\
  ((h.get? b=some { cls:=.type "list",data:=.seq vs.toArray }/\u=.frz { cls:=.type "list",data:=.seq vs.toArray } (.lst (vs.map toV))) \/
   (h.get? b=some { cls:=.type "tuple",data:=.seq vs.toArray }/\u=.frz { cls:=.type "tuple",data:=.seq vs.toArray } (.tup (vs.map toV)))):=by
 obtain ⟨hb,hk⟩:=qi7 q
 obtain ⟨vs,h1,h2,h3⟩:=ar b hb
 refine ⟨hk,vs,h1,h2,?_⟩
 rcases h3 with e | e
 ·rw [qaG hb hk e,qd4] at q
  exact .inl ⟨e,(Option.some.inj q).symm⟩
 ·rw [qaG hb hk e,qd5] at q
  exact .inr ⟨e,(Option.some.inj q).symm⟩
theorem qgK (ar:∀ a∈A,Qy h A a):qbE (jS K h A):=fun b=>by
 cases q:jS K h A b with
 | none=>exact .inl rfl
 | some u=>
  obtain ⟨_,vs,_,_,⟨_,e⟩ | ⟨_,e⟩⟩:=qaH ar q
  ·exact .inr ⟨_,_,by rw [e]⟩
  ·exact .inr ⟨_,_,by rw [e]⟩
theorem qi8 (ar:∀ a∈A,Qy h A a):HOk P w (jS K h A) h:=fun b u q=>by
 obtain ⟨_,vs,h1,h2,⟨e,rfl⟩ | ⟨e,rfl⟩⟩:=qaH ar q
 ·exact ⟨e,by rw [List.length_map]; exact h1,vs,_,QT h2,e⟩
 ·exact ⟨e,by rw [List.length_map]; exact h1,vs,QT h2,_,e,rfl,_,rfl⟩
theorem qaI {c c':Value} {vs us:List Value} (e:(some { cls:=c,data:=.seq vs.toArray }:Option Obj)=some { cls:=c',data:=.seq us.toArray }):c=c'/\vs=us:=by
 have e1:=Option.some.inj e
 have e2:c=c':=congrArg Obj.cls e1
 have e3:Data.seq vs.toArray=Data.seq us.toArray:=congrArg Obj.data e1
 injection e3 with e4
 refine ⟨e2,?_⟩
 have e5:=congrArg Array.toList e4
 simpa using e5
theorem qk1 (KX:K.In h) (ar:∀ a∈A,Qy h A a) {a:Addr} {vs:List Value} (ha:a∈A) (e:h.get? a=some { cls:=.type "list",data:=.seq vs.toArray }):(∀ u∈vs,OkU A u)/\SqL K (jS K h A) a (vs.map toV):=by
 obtain ⟨us,h1,h2,h3⟩:=ar a ha
 have hu:us=vs:=by
  rcases h3 with q | q
  ·rw [e] at q
   exact (qaI q).2.symm
  ·rw [e] at q
   exact absurd (Value.type.inj (qaI q).1) (by decide)
 subst hu
 refine ⟨h2,?_⟩
 cases hk:K.lookup a with
 | none=>exact .inl (.inr ⟨_,by rw [qaG ha hk e,qd4]⟩)
 | some o=>
  have e2:=KX a o hk
  rw [e] at e2
  obtain rfl:=Option.some.inj e2
  exact .inr ⟨_,us.toArray,_,hk,rfl,rfl,rfl,by rw [List.size_toArray]; exact h1,by simpa using QT h2⟩
theorem qk2 (KX:K.In h) (ar:∀ a∈A,Qy h A a) {a:Addr} {vs:List Value} (ha:a∈A) (e:h.get? a=some { cls:=.type "tuple",data:=.seq vs.toArray }):(∀ u∈vs,OkU A u)/\SqT K (jS K h A) a (vs.map toV):=by
 obtain ⟨us,h1,h2,h3⟩:=ar a ha
 have hu:us=vs:=by
  rcases h3 with q | q
  ·rw [e] at q
   exact absurd (Value.type.inj (qaI q).1) (by decide)
  ·rw [e] at q
   exact (qaI q).2.symm
 subst hu
 refine ⟨h2,?_⟩
 cases hk:K.lookup a with
 | none=>exact .inl (.inr ⟨_,by rw [qaG ha hk e,qd5]⟩)
 | some o=>
  have e2:=KX a o hk
  rw [e] at e2
  obtain rfl:=Option.some.inj e2
  exact .inr ⟨_,us.toArray,_,hk,rfl,rfl,by rw [List.size_toArray]; exact h1,by simpa using QT h2⟩
mutual
theorem qj7 {Pm:Params} (KX:K.In h) (ar:∀ a∈A,Qy h A a):∀ (d:WData) (v:Value),Well Pm h v d->plW d=true->OkU A v->Dw K (jS K h A) (toV v) d
 | .none,_,x,_,_=>by
  cases x
  exact .non
 | .bool b,_,x,_,_=>by
  cases x
  exact .bl b
 | .int i,_,x,_,_=>by
  cases x
  exact .int i
 | .str s,_,x,_,_=>by
  cases x
  exact .str s
 | .bytes b,_,x,_,_=>by
  cases x
  have z:=Dw.byt (K:=K) (H:=jS K h A) b.toArray
  exact z
 | .list ds,_,x,p,hu=>by
  obtain ⟨a,vs,rfl,ho,hall⟩:=qcT x
  obtain ⟨h2,hs⟩:=qk1 KX ar hu ho
  exact .lst hs (qbF KX ar ds _ hall p h2)
 | .tuple ds,_,x,p,hu=>by
  obtain ⟨a,vs,rfl,ho,hall⟩:=qbD x
  obtain ⟨h2,hs⟩:=qk2 KX ar hu ho
  exact .tup hs (qbF KX ar ds _ hall p h2)
 | .float _,_,_,p,_=>Bool.noConfusion (show false=true from p)
 | .dict _,_,_,p,_=>Bool.noConfusion (show false=true from p)
 | .bytearray _,_,_,p,_=>Bool.noConfusion (show false=true from p)
 | .set _,_,_,p,_=>Bool.noConfusion (show false=true from p)
 | .frozenset _,_,_,p,_=>Bool.noConfusion (show false=true from p)
 | .obj _ _,_,_,p,_=>Bool.noConfusion (show false=true from p)
theorem qbF {Pm:Params} (KX:K.In h) (ar:∀ a∈A,Qy h A a):∀ (ds:List WData) (vs:List Value),WellAll Pm h vs ds->Zf ds=true->(∀ u∈vs,OkU A u)->Qx K (jS K h A) (vs.map toV) ds
 | [],_,x,_,_=>by
  cases x
  exact .nil
 | d::ds,_,x,p,hu=>by
  obtain ⟨v,vs,rfl,x1,x2⟩:=qcU x
  have q:plW d=true/\Zf ds=true:=Bool.and_eq_true_iff.mp p
  exact .cons (qj7 KX ar d v x1 q.1 (hu _ (List.mem_cons_self ..))) (qbF KX ar ds vs x2 q.2 fun u m=>hu u (List.mem_cons_of_mem _ m))
end
end
theorem qgL {P:Program} {w:World} {K:PySem.W.Frag} {mg mb:Str->Option Value} {CX:CXT} {k:Nat} {fa:Addr} {fd:FuncData} {ps:List Str} {sp:Sp} {s₁ : Shared} {vals:List Value} {ds:List WData} {R:PySem.W.WRecords} {cl:Str->Option Addr} {d0:WData}
  (KX:K.In s₁.heap) (hns:s₁.heap.Ns mainGlobals mg) (hb:s₁.heap.Ns builtinsNs mb) (hbb:∀ x:Str,x ≠ "__name__" -> mb x=bootBuiltins x) (hlim:s₁.heap.NoLimit) (hg:s₁.gens = #[])
  (hwl:WellAll w.params s₁.heap vals ds) (hpl:Zf ds=true) (hwt:∀ d∈ds,d.weight<=1048576) (hr:qE k callerA)
  (F:∀ base:Heap,K.In base->base.Ns mainGlobals mg->qB P w K mg base CX k fa fd ps sp) (hbind:∀ (s:Shared) (us:List Value),us.length=ps.length->BindsTo s fd ⟨us,[]⟩ (ps.zip us)) (hlen:ds.length=ps.length)
  (hsp:∀ (H:Hp) (xs:List V),qbE H->Qx K H xs ds->sp xs H (fun v H'=>Dw K H' v d0) fun _ _ _=>False)
  (hCX:∀ H e s',CX [] H s₁ (fun _ _ _=>False) e s'->False) :
  codeAny (model P w) callerA (.call (.ref fa) ⟨vals,[]⟩) (fun r s'=>∃ u as,r=.ok (.ret u)/\ReadsW R cl s'.heap u d0 as/\OldK s₁.heap s'.heap/\s'.os=s₁.os/\AllBare s'.gens) s₁:=by
 obtain ⟨A,ho,ar⟩:=Jm ds vals hwl hpl hwt
 have hO:qbE (jS K s₁.heap A):=qgK ar
 have hok:HOk P w (jS K s₁.heap A) s₁.heap:=qi8 ar
 have hS:=qbF KX ar ds vals hwl hpl ho
 have hV:=QT ho
 have hK:∀ b u,jS K s₁.heap A b=some u->K.lookup b=none:=fun b u q=>(qaH ar q).1
 have noA:∀ {b:Addr} {o:Obj} {es:Array DictEntry} {ep:Nat},s₁.heap.get? b=some o->o.data=.dict es ep->jS K s₁.heap A b=none:=fun {b o es ep} e d=>by
  cases q:jS K s₁.heap A b with
  | none=>rfl
  | some u=>
   obtain ⟨_,vs,_,_,⟨e2,_⟩ | ⟨e2,_⟩⟩:=qaH ar q
   ·rw [e2] at e
    cases e
    have d':Data.seq vs.toArray _=Data.dict es ep:=d
    cases d'
   ·rw [e2] at e
    cases e
    have d':Data.seq vs.toArray _=Data.dict es ep:=d
    cases d'
 generalize jS K s₁.heap A=H at hO hok hS hK noA
 have base_of:∀ {b:Addr} {o:Obj},s₁.heap.get? b=some o->H b=none->(Jb s₁.heap H).get? b=some o:=fun e n=>qhA e n
 have nsK:∀ {b:Addr} {m:Str->Option Value},s₁.heap.Ns b m->(Jb s₁.heap H).Ns b m:=fun {b m} ⟨o,es,ep,e,d,r⟩=>⟨o,es,ep,base_of e (noA e d),d,r⟩
 have nK:∀ b o,K.lookup b=some o->H b=none:=fun b o e=>by
  cases q:H b with
  | none=>rfl
  | some u=>
   rw [hK b u q] at e
   cases e
 have hKb:K.In (Jb s₁.heap H):=fun b o e=>base_of (KX b o e) (nK b o e)
 have hM:Mod K mg (Jb s₁.heap H):=⟨hKb,nsK hns,⟨mb,nsK hb,hbb⟩,let ⟨mc,h1,h2⟩:=hlim; ⟨mc,nsK h1,h2⟩⟩
 have e0:Jf P w K mg (Jb s₁.heap H) callerA [] s₁ H:=⟨rfl,hM,fun b o e=>qiI e,Nat.le_of_eq (qgq _ _),trivial,fun b hb=>absurd (show b∈([]:List Addr) from hb) (by simp),hok,.of_eq hg⟩
 have hl:vals.length=ps.length:=by rw [Q1 hwl]; exact hlen
 refine codeAny_mono ((F _ hKb (nsK hns)).run callerA [] s₁ H ⟨vals,[]⟩ vals (vals.map toV) _ _ hr e0 (hbind s₁ vals hl) hV (hsp H _ hO hS)) fun r s' x=>?_
 cases r with
 | error e=>exact (hCX H e s' x).elim
 | ok fl=>
  cases fl with
  | next=>exact False.elim x
  | brk=>exact False.elim x
  | cont=>exact False.elim x
  | ret u=>
   obtain ⟨v,H',os,bare,un,hok',r',q⟩:=x
   have kept:∀ b o,s₁.heap.get? b=some o->s'.heap.get? b=some o:=fun b o e=>by
    cases q2:H b with
    | none=>exact un.keep b o e q2 (by intro z; exact absurd (show b∈([]:List Addr) from z) (by simp)) (by simp)
    | some u2=>
     rcases hO b with z | ⟨ob,u3,z⟩
     ·rw [q2] at z
      cases z
     ·have z2:=un.frzs b ob _ z
      obtain ⟨e1,_⟩:=hok b _ z
      obtain ⟨e2,_⟩:=hok' b _ z2
      rw [e] at e1
      cases e1
      exact e2
   have KX':K.In s'.heap:=fun b o e=>kept b o (KX b o e)
   obtain ⟨as,hrd⟩:=Dw.reads (R:=R) (cl:=cl) hok' KX' d0 v u q r'
   exact ⟨u,as,rfl,hrd,OldK.of_keep kept,os,bare⟩
theorem qcb {ds:List WData} (h:WData.layableAll ds=true):∀ d∈ds,d.weight<=1048576:=fun d hd=>
 (PySem.W.layableW_iff.mp (List.all_eq_true.mp h d hd)).2.2
theorem qbG:∀ (cs:List Codec) (a:Codec.denoteAll cs),(Codec.encAll cs a).length=cs.length
 | [],_=>rfl
 | c::cs,a=>by
  show (Codec.encAll cs a.2).length+1=cs.length+1
  rw [qbG cs a.2]
theorem qgM {r:OpenSpec} {k:Nat} {q:Program} {loose:List Str} {XP:(Str->Option Value)->Heap->Prop} {YP:World->Heap->Prop} {d:DefRec} {K:Params->PySem.W.Frag} {CX:World->CXT} {ps:List Str} {sp:World->Sp}
  (hwell:r.wellSaid=true) (hdf:d.params.defaults=[]) (hlen:r.args.length=ps.length) (hr:qE k callerA)
  (hY:∀ (w:World) (h:Heap),YP w h->(K w.params).In h)
  (F:∀ (w:World) (mg:Str->Option Value) (fa:Addr) (h:Heap),YP w h->(K w.params).In h->h.Ns mainGlobals mg->mg d.name=some (.ref fa) ->
   ∃ fd:FuncData,(∀ (s:Shared) (us:List Value),us.length=ps.length->BindsTo s fd ⟨us,[]⟩ (ps.zip us)) /\
    ∀ base:Heap,(K w.params).In base->base.Ns mainGlobals mg->qB r.prog w (K w.params) mg base (CX w) k fa fd ps (sp w))
  (hsp:∀ (w:World) (H:Hp) (xs:List V) (a:Codec.denoteAll r.args),qbE H->Codec.withinAll r.args a=true->Codec.app r.args r.asked a=true->Qx (K w.params) H xs (Codec.encAll r.args a) ->
   sp w xs H (fun v H'=>Dw (K w.params) H' v (r.ret.enc (Codec.app r.args r.f a))) fun _ _ _=>False)
  (hCX:∀ (w:World) (H:Hp) (s:Shared) (e:Value) (s':Shared),CX w [] H s (fun _ _ _=>False) e s'->False) :
  PySem.W.WalkOS q loose XP YP r d [] (fun f vs=>PySem.call f vs):=by
 intro w s_0 s₁ mg mb G Y fa o pm cd doc dV kV ho hd hcd hD hmg hg args vals as hpre hlay hrd hwl hlo
 obtain ⟨a,e1,e2⟩:=PySem.W.os_pre_some hpre
 obtain ⟨e3,hwi⟩:=Codec.encAll_of_decAll r.args args a e1
 subst e3
 have KX:=hY w _ Y
 obtain ⟨fd,hb,hF⟩:=F w mg fa _ Y KX G.T.g hmg
 refine PySem.W.enter_call (codeAny_mono (qgL (R:=[]) (cl:=classAt s_0.heap) (d0:=r.ret.enc (Codec.app r.args r.f a)) KX G.T.g G.T.b G.T.builtins G.T.nolimit hg hwl (qcS _ _) (qcb hlay) hr hF hb (by rw [qbG]; exact hlen)
  (fun H xs hO hS=>hsp w H xs a hO hwi e2 hS) fun H e s'=>hCX w H s₁ e s') fun r' s' hq=>?_)
 obtain ⟨u,as',rfl,h1,h2,h3,h4⟩:=hq
 exact ⟨.inl ⟨u,_,as',rfl,fun _=>rfl,h1,(OpenSpec.post_iff hwell hwi _ _).mpr rfl,fun z=>Bool.noConfusion (show false=true from z)⟩,h2,h3,h4⟩
theorem qfY {r:OpenSpec} {k:Nat} {q:Program} {loose:List Str} {XP:(Str->Option Value)->Heap->Prop} {YP:World->Heap->Prop} {d:DefRec} {K:Params->PySem.W.Frag} {CX:CXT} {ps:List Str} {sp:PySem.W.Frag->Sp}
  (hwell:r.wellSaid=true) (hdf:d.params.defaults=[]) (hlen:r.args.length=ps.length) (hr:qE k callerA)
  (hY:∀ (w:World) (h:Heap),YP w h->(K w.params).In h)
  (F:∀ (w:World) (mg:Str->Option Value) (fa:Addr) (h:Heap),YP w h->(K w.params).In h->h.Ns mainGlobals mg->mg d.name=some (.ref fa) ->
   ∃ fd:FuncData,(∀ (s:Shared) (us:List Value),us.length=ps.length->BindsTo s fd ⟨us,[]⟩ (ps.zip us)) /\
    ∀ base:Heap,(K w.params).In base->base.Ns mainGlobals mg->qB r.prog w (K w.params) mg base CX k fa fd ps (sp (K w.params)))
  (hsp:∀ (K:PySem.W.Frag) (H:Hp) (xs:List V) (a:Codec.denoteAll r.args),qbE H->Codec.withinAll r.args a=true->Codec.app r.args r.asked a=true->Qx K H xs (Codec.encAll r.args a) ->
   sp K xs H (fun v H'=>Dw K H' v (r.ret.enc (Codec.app r.args r.f a))) fun _ _ _=>False)
  (hCX:∀ (H:Hp) (s:Shared) (e:Value) (s':Shared),CX [] H s (fun _ _ _=>False) e s'->False) :
  PySem.W.WalkOS q loose XP YP r d [] (fun f vs=>PySem.call f vs) :=
 qgM (K:=K) (CX:=fun _=>CX) (sp:=fun w=>sp (K w.params)) hwell hdf hlen hr hY F (fun w H xs a h1 h2 h3 h4=>hsp (K w.params) H xs a h1 h2 h3 h4) fun _ H s e s'=>hCX H s e s'
end L2
end
end
section
set_option autoImplicit false
namespace RM
open Vastoa
def kd:Tok->Tok
 | .name _=>.name []
 | .num _=>.num []
 | .piece _=>.piece []
 | t=>t
def held:Tok->Text
 | .name x=>x
 | .num x=>x
 | .piece x=>x
 | .word x=>x
 | _=>[]
inductive Part where
 | EXPR | FORM | FUNCTION | FIELDS | PARAMS | GIVEN | MPARAMS | BINDS | BOUND | OR | MOR | AND | MAND | NOT | CMP | MCMP | UPD | MUPD | JOIN | MJOIN
 | SUM | MSUM | PROD | MPROD | NEG | APP | ARGS | ARG | SEL | DOTS | MDOTS | DFLT | ATOM | PIECES | LIST | MLIST
deriving DecidableEq
inductive Act where
 | begin | take | label | fresh | enter | leave
 | fin (k:Kind)
deriving DecidableEq
inductive Sym where
 | p (x:Part)
 | t (k:Tok)
 | a (x:Act)
deriving DecidableEq
abbrev zQ:Tok:=.name []
abbrev qd6:Tok:=.num []
abbrev Zu:Tok:=.piece []
abbrev qdB:Tok:=.sign [46,46]
open Part Act Sym in
def qw (x:Part) (k:Tok):List Sym:=match x with
 | EXPR=>[a enter,p FORM,a leave]
 | FORM=>
  if k=.word wFn then [t (.word wFn),p FUNCTION]
  else if k=.word wLet then [t (.word wLet),a begin,t zQ,p BOUND,p BINDS,t (.word wIn),p EXPR,a (fin .letIn)]
  else if k=.word wIf then [t (.word wIf),a begin,p EXPR,t (.word wThen),p EXPR,t (.word wElse),p EXPR,a (fin .cond)]
  else if k=.word wMust then [t (.word wMust),a begin,p EXPR,t sSemi,p EXPR,a (fin .must)]
  else [p OR]
 | FUNCTION=>
  if k=zQ then [t zQ,a begin,a label,t sColon,p EXPR,a (fin .fn)]
  else [t sBrace,a begin,p FIELDS]
 | FIELDS=>if k=sUnbrace then [t sUnbrace,t sColon,p EXPR,a (fin .fields)] else [p PARAMS]
 | PARAMS=>
  if k=qdB then [t qdB,t sUnbrace,t sColon,p EXPR,a (fin .openFields)]
  else [t zQ,a fresh,a begin,a label,p GIVEN,a (fin .param),p MPARAMS]
 | GIVEN=>if k=sAsk then [t sAsk,p EXPR] else []
 | MPARAMS=>if k=sComma then [t sComma,p PARAMS] else [t sUnbrace,t sColon,p EXPR,a (fin .fields)]
 | BINDS=>if k=zQ then [t zQ,p BOUND,p BINDS] else []
 | BOUND=>[a fresh,a label,t sIs,p EXPR,t sSemi]
 | OR=>[p AND,p MOR]
 | MOR=>if k=.word wOr then [t (.word wOr),a take,p AND,a (fin (.op .or)),p MOR] else []
 | AND=>[p NOT,p MAND]
 | MAND=>if k=.word wAnd then [t (.word wAnd),a take,p NOT,a (fin (.op .and)),p MAND] else []
 | NOT=>if k=.word wNot then [t (.word wNot),a begin,p NOT,a (fin .not)] else [p CMP]
 | CMP=>[p UPD,p MCMP]
 | MCMP=>
  if k=.sign [61,61] then [t (.sign [61,61]),a take,p UPD,a (fin (.op .eq))]
  else if k=.sign [33,61] then [t (.sign [33,61]),a take,p UPD,a (fin (.op .ne))]
  else if k=.sign [60] then [t (.sign [60]),a take,p UPD,a (fin (.op .lt))]
  else if k=.sign [60,61] then [t (.sign [60,61]),a take,p UPD,a (fin (.op .le))]
  else if k=.word wHas then [t (.word wHas),a take,t zQ,a label,a (fin .has)]
  else []
 | UPD=>[p JOIN,p MUPD]
 | MUPD=>if k=.sign [47,47] then [t (.sign [47,47]),a take,p UPD,a (fin (.op .upd))] else []
 | JOIN=>[p SUM,p MJOIN]
 | MJOIN=>if k=.sign [43,43] then [t (.sign [43,43]),a take,p JOIN,a (fin (.op .join))] else []
 | SUM=>[p PROD,p MSUM]
 | MSUM=>
  if k=.sign [43] then [t (.sign [43]),a take,p PROD,a (fin (.op .add)),p MSUM]
  else if k=sMinus then [t sMinus,a take,p PROD,a (fin (.op .sub)),p MSUM]
  else []
 | PROD=>[p NEG,p MPROD]
 | MPROD=>if k=.sign [42] then [t (.sign [42]),a take,p NEG,a (fin (.op .mul)),p MPROD] else []
 | NEG=>if k=sMinus then [t sMinus,a begin,p NEG,a (fin .neg)] else [p APP]
 | APP=>[p SEL,p ARGS]
 | ARGS=>if begins k then [p ARG,p ARGS] else []
 | ARG=>[a take,p SEL,a (fin .app)]
 | SEL=>[p ATOM,p DOTS]
 | DOTS=>if k=sDot then [t sDot,a take,t zQ,a label,p MDOTS,p DFLT,a (fin .get)] else []
 | MDOTS=>if k=sDot then [t sDot,t zQ,a label,p MDOTS] else []
 | DFLT=>if k=sAsk then [t sAsk,p ATOM] else []
 | ATOM=>
  if k=zQ then [t zQ,a begin,a label,a (fin .name)]
  else if k=qd6 then [t qd6,a begin,a label,a (fin .num)]
  else if k=.word wTrue then [t (.word wTrue),a begin,a (fin .yes)]
  else if k=.word wFalse then [t (.word wFalse),a begin,a (fin .no)]
  else if k=.word wNone then [t (.word wNone),a begin,a (fin .none)]
  else if k=.quote then [t .quote,a begin,p PIECES,t .unquote,a (fin .text)]
  else if k=.sign [40] then [t (.sign [40]),p EXPR,t sClose]
  else if k=.sign [91] then [t (.sign [91]),a begin,p LIST,a (fin .list)]
  else if k=sBrace then [t sBrace,a begin,p BINDS,t sUnbrace,a (fin .record)]
  else [t (.word wRec),t sBrace,a begin,p BINDS,t sUnbrace,a (fin .recur)]
 | PIECES=>
  if k=Zu then [t Zu,a begin,a label,a (fin .piece),p PIECES]
  else if k=.hole then [t .hole,p EXPR,t .unhole,p PIECES]
  else []
 | LIST=>if k=sListClose then [t sListClose] else [p EXPR,p MLIST,t sListClose]
 | MLIST=>if k=sComma then [t sComma,p EXPR,p MLIST] else []
structure Bg where
 first:Nat
 labels:List Text
 names:List Text
structure MS where
 ts:Marks
 pv:Mark
 lv:Nat
 W:List Sym
 B:List Tree
 G:List Bg
def Jn (x:Act) (ts:Marks) (pv:Mark) (lv:Nat) (W:List Sym) (B:List Tree) (G:List Bg):Option (Except Fault MS):=match x with
 | .begin=>some (.ok ⟨ts,pv,lv,W,B,⟨B.length,[],[]⟩::G⟩)
 | .take=>if B.length=0 then none else some (.ok ⟨ts,pv,lv,W,B,⟨B.length - 1,[],[]⟩::G⟩)
 | .label=>match G with
  | []=>none
  | g::r=>some (.ok ⟨ts,pv,lv,W,B,⟨g.first,g.labels++[held pv.tok],g.names⟩::r⟩)
 | .fresh=>match G with
  | []=>none
  | g::r=>if held pv.tok∈g.names then some (.error ⟨5,pv.place⟩) else some (.ok ⟨ts,pv,lv,W,B,⟨g.first,g.labels,g.names++[held pv.tok]⟩::r⟩)
 | .enter=>match ts with
  | []=>none
  | m::_=>if lv=40 then some (.error ⟨4,m.place⟩) else some (.ok ⟨ts,pv,lv+1,W,B,G⟩)
 | .leave=>if lv=0 then none else some (.ok ⟨ts,pv,lv - 1,W,B,G⟩)
 | .fin k=>match G with
  | []=>none
  | g::r=>if g.first<=B.length then some (.ok ⟨ts,pv,lv,W,B.take g.first++[.node k g.labels (B.drop g.first)],r⟩) else none
def step (s:MS):Option (Except Fault MS):=match s.W with
 | []=>none
 | .p x::W=>match s.ts with
  | []=>none
  | m::_=>some (.ok { s with W:=qw x (kd m.tok)++W })
 | .t k::W=>match s.ts with
  | []=>none
  | m::r=>if kd m.tok=k then some (.ok ⟨r,m,s.lv,W,s.B,s.G⟩) else some (.error ⟨3,m.place⟩)
 | .a x::W=>Jn x s.ts s.pv s.lv W s.B s.G
inductive Run (Q:MS->Prop) (E:Fault->Prop):MS->Prop
 | done {s:MS}:Q s->Run Q E s
 | next {s s':MS}:step s=some (.ok s')->Run Q E s'->Run Q E s
 | fail {s:MS} {x:Fault}:step s=some (.error x)->E x->Run Q E s
inductive qcc (Q:MS->Prop) (E:Fault->Prop):Nat->MS->Prop
 | done {s:MS}:Q s->qcc Q E 0 s
 | next {n:Nat} {s s':MS}:step s=some (.ok s')->qcc Q E n s'->qcc Q E (n+1) s
 | fail {n:Nat} {s:MS} {x:Fault}:step s=some (.error x)->E x->qcc Q E (n+1) s
theorem Run.count {Q:MS->Prop} {E:Fault->Prop} {s:MS} (h:Run Q E s):∃ n,qcc Q E n s:=by
 induction h with
 | done q=>exact ⟨0,.done q⟩
 | next e _ ih=>obtain ⟨n,h⟩:=ih; exact ⟨n+1,.next e h⟩
 | fail e q=>exact ⟨1,.fail e q⟩
mutual
def good:Tree->Bool
 | .node k ls l=>qz l&&(match k with
  | .piece=>ls.length == 1&&l.isEmpty
  | .num=>ls.length == 1&&l.isEmpty
  | .yes=>ls.isEmpty&&l.isEmpty
  | .no=>ls.isEmpty&&l.isEmpty
  | .none=>ls.isEmpty&&l.isEmpty
  | .name=>ls.length == 1&&l.isEmpty
  | .text=>ls.isEmpty
  | .list=>ls.isEmpty
  | .record=>ls.length == l.length
  | .recur=>ls.length == l.length
  | .get=>l.length == 1||l.length == 2
  | .app=>ls.isEmpty&&l.length == 2
  | .neg=>ls.isEmpty&&l.length == 1
  | .not=>ls.isEmpty&&l.length == 1
  | .has=>ls.length == 1&&l.length == 1
  | .fn=>ls.length == 1&&l.length == 1
  | .fields=>ls.isEmpty && !l.isEmpty
  | .openFields=>ls.isEmpty && !l.isEmpty
  | .param=>ls.length == 1&&(l.length == 0||l.length == 1)
  | .letIn=>ls.length+1 == l.length
  | .cond=>ls.isEmpty&&l.length == 3
  | .must=>ls.isEmpty&&l.length == 2
  | .op _=>ls.isEmpty&&l.length == 2)
def qz:List Tree->Bool
 | []=>true
 | t::r=>good t&&qz r
end
theorem QU:∀ (a b:List Tree),qz (a++b)=(qz a&&qz b)
 | [],b=>by simp [qz]
 | t::r,b=>by simp [qz,QU r b,Bool.and_assoc]
end RM
end
section
set_option autoImplicit false
namespace RM
open Vastoa
def Ends (ts:Marks):Prop:=∃ (pre:Marks) (q:Nat),ts=pre++[⟨q,.fin⟩]/\∀ m∈pre,m.tok≠.fin
theorem Ends.cons {ts:Marks} (h:Ends ts):∃ m r,ts=m::r/\(m.tok≠.fin->Ends r)/\(m.tok=.fin->r=[]):=by
 obtain ⟨pre,q,rfl,hp⟩:=h
 cases pre with
 | nil=>exact ⟨⟨q,.fin⟩,[],rfl,fun h=>absurd rfl h,fun _=>rfl⟩
 | cons m r=>exact ⟨m,r++[⟨q,.fin⟩],rfl,fun _=>⟨r,q,rfl,fun x hx=>hp x (List.mem_cons_of_mem _ hx)⟩,fun h=>absurd h (hp m List.mem_cons_self)⟩
def zK:Tok->Bool
 | .word _=>true
 | .sign _=>true
 | .quote=>true
 | .unquote=>true
 | .hole=>true
 | .unhole=>true
 | _=>false
theorem ql {k t:Tok} (h:zK k=true):kd t=k ↔ t=k:=by
 cases t <;> cases k <;> simp_all [kd,zK]
theorem Qt {k:Tok} (h:zK k=true):k≠.fin:=by rintro rfl; cases h
theorem qaJ {t:Tok}:kd t=zQ ↔ ∃ x,t=.name x:=by cases t <;> simp [kd,zQ]
theorem qj8 {t:Tok}:kd t=qd6 ↔ ∃ x,t=.num x:=by cases t <;> simp [kd,qd6]
theorem qhZ {t:Tok}:kd t=Zu ↔ ∃ x,t=.piece x:=by cases t <;> simp [kd,Zu]
theorem qgN {t:Tok}:kd t=.fin ↔ t=.fin:=by cases t <;> simp [kd]
theorem qgO (t:Tok):begins (kd t)=begins t:=by cases t <;> rfl
section
variable {Q:MS->Prop} {E:Fault->Prop} {ts:Marks} {pv:Mark} {lv:Nat} {W:List Sym} {B:List Tree} {G:List Bg}
theorem zm {x:Part} (he:Ends ts) (h:Run Q E ⟨ts,pv,lv,qw x (kd (next ts))++W,B,G⟩):Run Q E ⟨ts,pv,lv,.p x::W,B,G⟩:=by
 obtain ⟨m,r,rfl,_⟩:=he.cons
 exact .next rfl h
theorem qbH {k:Tok} (he:Ends ts) (hk:k≠.fin)
  (h:∀ m,kd (next ts)=k->m.tok=next ts->m.place=here ts->Ends (ts.drop 1)->(ts.drop 1).length<ts.length->Run Q E ⟨ts.drop 1,m,lv,W,B,G⟩)
  (hx:kd (next ts)≠k->E ⟨3,here ts⟩):Run Q E ⟨ts,pv,lv,.t k::W,B,G⟩:=by
 obtain ⟨m,r,rfl,he',_⟩:=he.cons
 by_cases e:kd m.tok=k
 ·have hm:m.tok≠.fin:=fun z=>hk (by rw [<- e,z]; rfl)
  refine .next (s':=⟨r,m,lv,W,B,G⟩) ?_ (h m e rfl rfl (he' hm) (by simp))
  show (if kd m.tok=k then _ else _)=_
  rw [if_pos e]
 ·refine .fail (x:=⟨3,m.place⟩) ?_ (hx e)
  show (if kd m.tok=k then _ else _)=_
  rw [if_neg e]
theorem qR {k:Tok} (he:Ends ts) (hk:k≠.fin) (e:kd (next ts)=k)
  (h:∀ m,m.tok=next ts->m.place=here ts->Ends (ts.drop 1)->(ts.drop 1).length<ts.length->Run Q E ⟨ts.drop 1,m,lv,W,B,G⟩):Run Q E ⟨ts,pv,lv,.t k::W,B,G⟩ :=
 qbH he hk (fun m _=>h m) fun z=>absurd e z
theorem zg (h:Run Q E ⟨ts,pv,lv,W,B,⟨B.length,[],[]⟩::G⟩):Run Q E ⟨ts,pv,lv,.a .begin::W,B,G⟩:=.next rfl h
theorem QV {t:Tree} (h:Run Q E ⟨ts,pv,lv,W,B++[t],⟨B.length,[],[]⟩::G⟩):Run Q E ⟨ts,pv,lv,.a .take::W,B++[t],G⟩:=by
 refine .next (s':=⟨ts,pv,lv,W,B++[t],⟨B.length,[],[]⟩::G⟩) ?_ h
 show (if (B++[t]).length=0 then none else some (Except.ok (⟨ts,pv,lv,W,B++[t],⟨(B++[t]).length - 1,[],[]⟩::G⟩:MS)))=_
 rw [if_neg (by simp)]
 simp
theorem jC {g:Bg} (h:Run Q E ⟨ts,pv,lv,W,B,⟨g.first,g.labels++[held pv.tok],g.names⟩::G⟩):Run Q E ⟨ts,pv,lv,.a .label::W,B,g::G⟩:=.next rfl h
theorem qcV {g:Bg} (h:held pv.tok∉g.names->Run Q E ⟨ts,pv,lv,W,B,⟨g.first,g.labels,g.names++[held pv.tok]⟩::G⟩) (hx:held pv.tok∈g.names->E ⟨5,pv.place⟩) :
  Run Q E ⟨ts,pv,lv,.a .fresh::W,B,g::G⟩:=by
 by_cases e:held pv.tok∈g.names
 ·refine .fail (x:=⟨5,pv.place⟩) ?_ (hx e)
  show (if held pv.tok∈g.names then _ else _)=_
  rw [if_pos e]
 ·refine .next (s':=⟨ts,pv,lv,W,B,⟨g.first,g.labels,g.names++[held pv.tok]⟩::G⟩) ?_ (h e)
  show (if held pv.tok∈g.names then _ else _)=_
  rw [if_neg e]
theorem qcW (he:Ends ts) (h:lv≠40->Run Q E ⟨ts,pv,lv+1,W,B,G⟩) (hx:lv=40->E ⟨4,here ts⟩):Run Q E ⟨ts,pv,lv,.a .enter::W,B,G⟩:=by
 obtain ⟨m,r,rfl,_⟩:=he.cons
 by_cases e:lv=40
 ·refine .fail (x:=⟨4,m.place⟩) ?_ (hx e)
  show (if lv=40 then _ else _)=_
  rw [if_pos e]
 ·refine .next (s':=⟨m::r,pv,lv+1,W,B,G⟩) ?_ (h e)
  show (if lv=40 then _ else _)=_
  rw [if_neg e]
theorem qgP (h:Run Q E ⟨ts,pv,lv,W,B,G⟩):Run Q E ⟨ts,pv,lv+1,.a .leave::W,B,G⟩:=by
 refine .next (s':=⟨ts,pv,lv,W,B,G⟩) ?_ h
 show (if lv+1=0 then none else _)=_
 rw [if_neg (by omega)]
 rfl
theorem zB {k:Kind} {ls ns:List Text} {l:List Tree} (h:Run Q E ⟨ts,pv,lv,W,B++[.node k ls l],G⟩):Run Q E ⟨ts,pv,lv,.a (.fin k)::W,B++l,⟨B.length,ls,ns⟩::G⟩:=by
 refine .next (s':=⟨ts,pv,lv,W,B++[.node k ls l],G⟩) ?_ h
 show (if B.length<=(B++l).length then _ else _)=_
 rw [if_pos (by simp)]
 simp
theorem QC {k:Kind} {ls ns:List Text} (h:Run Q E ⟨ts,pv,lv,W,B++[.node k ls []],G⟩):Run Q E ⟨ts,pv,lv,.a (.fin k)::W,B,⟨B.length,ls,ns⟩::G⟩:=by
 have:=zB (k:=k) (ls:=ls) (ns:=ns) (l:=[]) h
 rwa [List.append_nil] at this
end
def qX (x:Part) (lv:Nat) (f:Read Tree):Prop :=
 ∀ (Q:MS->Prop) (E:Fault->Prop) (ts:Marks) (pv:Mark) (W:List Sym) (B:List Tree) (G:List Bg),Ends ts ->
  (∀ e ts' pv',f ts=.ok (e,ts')->Ends ts'->ts'.length<ts.length->good e=true->Run Q E ⟨ts',pv',lv,W,B++[e],G⟩) ->
  (∀ y,f ts=.error y->E y)->Run Q E ⟨ts,pv,lv,.p x::W,B,G⟩
def qh0 (x:Part) (lv:Nat) (f:Nat->Tree->Read Tree):Prop :=
 ∀ (n:Nat) (Q:MS->Prop) (E:Fault->Prop) (a:Tree) (ts:Marks) (pv:Mark) (W:List Sym) (B:List Tree) (G:List Bg),Ends ts->ts.length<n->good a=true ->
  (∀ e ts' pv',f n a ts=.ok (e,ts')->Ends ts'->ts'.length<=ts.length->good e=true->Run Q E ⟨ts',pv',lv,W,B++[e],G⟩) ->
  (∀ y,f n a ts=.error y->E y)->Run Q E ⟨ts,pv,lv,.p x::W,B++[a],G⟩
theorem qcd:∀ (ops:List (Tok × Op)),(∀ p∈ops,zK p.1=true)->∀ (z:Tok),(ops.find? fun p=>decide (p.1=kd z))=ops.find? fun p=>decide (p.1=z)
 | [],_,_=>rfl
 | p::r,hb,z=>by
  have hp:=hb p List.mem_cons_self
  have e1:decide (p.1=kd z)=decide (p.1=z):=decide_eq_decide.mpr ⟨fun q=>((ql hp).mp q.symm).symm,fun q=>((ql hp).mpr q.symm).symm⟩
  rw [List.find?_cons,List.find?_cons,e1,qcd r (fun q hq=>hb q (List.mem_cons_of_mem _ hq)) z]
theorem Jo {x y:Part} {lv:Nat} {ops:List (Tok × Op)} {under:Read Tree} (hy:qX y lv under) (hb:∀ p∈ops,zK p.1=true)
  (hc:∀ k,qw x k=match ops.find? fun p=>p.1=k with
   | some p=>[.t p.1,.a .take,.p y,.a (.fin (.op p.2)),.p x]
   | none=>[]):qh0 x lv (leftMore ops under):=by
 intro n
 induction n with
 | zero=>intro Q E a ts pv W B G _ h; exact absurd h (Nat.not_lt_zero _)
 | succ n ih=>
  intro Q E a ts pv W B G he hn ga hok hx
  refine zm he ?_
  rw [hc]
  have ek:=qcd ops hb (next ts)
  rw [ek]
  cases ef:ops.find? fun p=>decide (p.1=next ts) with
  | none=>
   refine hok a ts pv ?_ he (Nat.le_refl _) ga
   show (match ops.find? fun p=>decide (p.1=next ts) with | some p=>_ | none=>_)=_
   rw [ef]
  | some p=>
   have hp:=hb p (List.mem_of_find?_eq_some ef)
   have e1:p.1=next ts:=of_decide_eq_true (List.find?_some (p:=fun p:Tok × Op=>decide (p.1=next ts)) ef)
   have ev:leftMore ops under (n+1) a ts=(under (ts.drop 1)).bind fun b=>leftMore ops under n (.node (.op p.2) [] [a,b.1]) b.2:=by
    show (match ops.find? fun p=>decide (p.1=next ts) with | some p=>_ | none=>_)=_
    rw [ef]
   rw [ev] at hok hx
   refine qR he (Qt hp) ((ql hp).mpr e1.symm) fun m _ _ he1 hl=>?_
   refine QV (hy _ _ _ _ _ _ _ he1 (fun b ts2 pv2 eb he2 hl2 gb=>?_) fun z ez=>hx z (by rw [ez]; rfl))
   rw [eb] at hok hx
   have e3:B++[a]++[b]=B++[a,b]:=by simp
   rw [e3]
   refine zB (ih _ _ _ _ _ _ _ _ he2 (by omega) (by simp [good,qz,ga,gb]) (fun e ts' pv' h1 h2 h3 h4=>hok e ts' pv' h1 h2 (by omega) h4) fun z ez=>hx z ez)
theorem Jp {x y w:Part} {lv:Nat} {ops:List (Tok × Op)} {under:Read Tree} (hy:qX y lv under) (hm:qh0 w lv (leftMore ops under)) (hc:∀ k,qw x k=[.p y,.p w]):qX x lv (left ops under):=by
 intro Q E ts pv W B G he hok hx
 refine zm he ?_
 rw [hc]
 have ev:left ops under ts=(under ts).bind fun a=>leftMore ops under (a.2.length+1) a.1 a.2:=rfl
 rw [ev] at hok hx
 refine hy _ _ _ _ _ _ _ he (fun a ts1 pv1 ea he1 hl1 ga=>?_) fun z ez=>hx z (by rw [ez]; rfl)
 rw [ea] at hok hx
 exact hm _ _ _ _ _ _ _ _ _ he1 (Nat.lt_succ_self _) ga (fun e ts' pv' h1 h2 h3 h4=>hok e ts' pv' h1 h2 (by omega) h4) fun z ez=>hx z ez
theorem qcX {x y w:Part} {lv:Nat} {t:Tok} {o:Op} {under:Read Tree} (hy:qX y lv under) (ht:zK t=true) (hc:∀ k,qw x k=[.p y,.p w])
  (hw:∀ k,qw w k=if k=t then [.t t,.a .take,.p x,.a (.fin (.op o))] else []):qX x lv (fun ts=>right t o under (ts.length+1) ts):=by
 have all:∀ (n:Nat) (Q:MS->Prop) (E:Fault->Prop) (ts:Marks) (pv:Mark) (W:List Sym) (B:List Tree) (G:List Bg),Ends ts->ts.length<n ->
  (∀ e ts' pv',right t o under n ts=.ok (e,ts')->Ends ts'->ts'.length<ts.length->good e=true->Run Q E ⟨ts',pv',lv,W,B++[e],G⟩) ->
  (∀ y,right t o under n ts=.error y->E y)->Run Q E ⟨ts,pv,lv,.p x::W,B,G⟩:=by
  intro n
  induction n with
  | zero=>intro Q E ts pv W B G _ h; exact absurd h (Nat.not_lt_zero _)
  | succ n ih=>
   intro Q E ts pv W B G he hn hok hx
   refine zm he ?_
   rw [hc]
   have ev:right t o under (n+1) ts=(under ts).bind fun a=>if next a.2=t then also (fun b=>.node (.op o) [] [a.1,b]) (right t o under n (a.2.drop 1)) else .ok a:=rfl
   rw [ev] at hok hx
   refine hy _ _ _ _ _ _ _ he (fun a ts1 pv1 ea he1 hl1 ga=>?_) fun z ez=>hx z (by rw [ez]; rfl)
   rw [ea] at hok hx
   refine zm he1 ?_
   rw [hw]
   by_cases e1:next ts1=t
   ·rw [if_pos ((ql ht).mpr e1)]
    have ev2:(Except.ok (a,ts1):Except Fault (Tree × Marks)).bind (fun a=>if next a.2=t then also (fun b=>.node (.op o) [] [a.1,b]) (right t o under n (a.2.drop 1)) else .ok a)=also (fun b=>.node (.op o) [] [a,b]) (right t o under n (ts1.drop 1)):=by
     show (if next ts1=t then _ else _)=_
     rw [if_pos e1]
    rw [ev2] at hok hx
    refine qR he1 (Qt ht) ((ql ht).mpr e1) fun m _ _ he2 hl2=>?_
    refine QV (ih _ _ _ _ _ _ _ he2 (by omega) (fun b ts3 pv3 eb he3 hl3 gb=>?_) fun z ez=>hx z (by rw [ez]; rfl))
    rw [eb] at hok hx
    have e3:B++[a]++[b]=B++[a,b]:=by simp
    rw [e3]
    exact zB (hok _ _ _ rfl he3 (by omega) (by simp [good,qz,ga,gb]))
   ·rw [if_neg fun z=>e1 ((ql ht).mp z)]
    refine hok a ts1 _ ?_ he1 hl1 ga
    show (if next ts1=t then _ else _)=_
    rw [if_neg e1]
 intro Q E ts pv W B G he hok hx
 exact all _ _ _ _ _ _ _ _ he (Nat.lt_succ_self _) hok hx
theorem qab {x y:Part} {lv:Nat} {t:Tok} {k:Kind} {under:Read Tree} (hy:qX y lv under) (ht:zK t=true) (hg:∀ e,good e=true->good (.node k [] [e])=true)
  (hc:∀ z,qw x z=if z=t then [.t t,.a .begin,.p x,.a (.fin k)] else [.p y]):qX x lv (fun ts=>prefixed t k under (ts.length+1) ts):=by
 have all:∀ (n:Nat) (Q:MS->Prop) (E:Fault->Prop) (ts:Marks) (pv:Mark) (W:List Sym) (B:List Tree) (G:List Bg),Ends ts->ts.length<n ->
  (∀ e ts' pv',prefixed t k under n ts=.ok (e,ts')->Ends ts'->ts'.length<ts.length->good e=true->Run Q E ⟨ts',pv',lv,W,B++[e],G⟩) ->
  (∀ y,prefixed t k under n ts=.error y->E y)->Run Q E ⟨ts,pv,lv,.p x::W,B,G⟩:=by
  intro n
  induction n with
  | zero=>intro Q E ts pv W B G _ h; exact absurd h (Nat.not_lt_zero _)
  | succ n ih=>
   intro Q E ts pv W B G he hn hok hx
   refine zm he ?_
   rw [hc]
   by_cases e1:next ts=t
   ·rw [if_pos ((ql ht).mpr e1)]
    have ev:prefixed t k under (n+1) ts=also (fun e=>.node k [] [e]) (prefixed t k under n (ts.drop 1)):=by
     show (if next ts=t then _ else _)=_
     rw [if_pos e1]
    rw [ev] at hok hx
    refine qR he (Qt ht) ((ql ht).mpr e1) fun m _ _ he1 hl1=>zg ?_
    refine ih _ _ _ _ _ _ _ he1 (by omega) (fun b ts3 pv3 eb he3 hl3 gb=>?_) fun z ez=>hx z (by rw [ez]; rfl)
    rw [eb] at hok hx
    exact zB (l:=[b]) (hok _ _ _ rfl he3 (by omega) (hg b gb))
   ·rw [if_neg fun z=>e1 ((ql ht).mp z)]
    have ev:prefixed t k under (n+1) ts=under ts:=by
     show (if next ts=t then _ else _)=_
     rw [if_neg e1]
    rw [ev] at hok hx
    exact hy _ _ _ _ _ _ _ he hok hx
 intro Q E ts pv W B G he hok hx
 exact all _ _ _ _ _ _ _ _ he (Nat.lt_succ_self _) hok hx
end RM
end
section
set_option autoImplicit false
namespace RM
open Vastoa
section
variable {Q:MS->Prop} {E:Fault->Prop} {ts:Marks} {pv:Mark} {lv:Nat} {W:List Sym} {B:List Tree} {G:List Bg} {sub:Read Tree}
theorem qcY {t:Tok} (h:next ts=t):expect t ts=.ok ((),ts.drop 1):=by unfold expect; rw [if_pos h]
theorem qcZ {t:Tok} (h:next ts≠t):expect t ts=.error ⟨3,here ts⟩:=by unfold expect; rw [if_neg h]; rfl
theorem QJ {t:Tok} (he:Ends ts) (ht:zK t=true)
  (h:∀ m,expect t ts=.ok ((),ts.drop 1)->Ends (ts.drop 1)->(ts.drop 1).length<ts.length->Run Q E ⟨ts.drop 1,m,lv,W,B,G⟩)
  (hx:expect t ts=.error ⟨3,here ts⟩->E ⟨3,here ts⟩):Run Q E ⟨ts,pv,lv,.t t::W,B,G⟩ :=
 qbH he (Qt ht) (fun m e _ _ h1 h2=>h m (qcY ((ql ht).mp e)) h1 h2) fun e=>hx (qcZ fun z=>e ((ql ht).mpr z))
theorem Ql {t:Tok} (hs:qX .EXPR lv sub) (he:Ends ts) (ht:zK t=true)
  (hok:∀ e ts' pv',closedBy t sub ts=.ok (e,ts')->Ends ts'->ts'.length<ts.length->good e=true->Run Q E ⟨ts',pv',lv,W,B++[e],G⟩)
  (hx:∀ y,closedBy t sub ts=.error y->E y):Run Q E ⟨ts,pv,lv,.p .EXPR::.t t::W,B,G⟩:=by
 have ev:closedBy t sub ts=(sub ts).bind fun e=>(expect t e.2).bind fun u=>.ok (e.1,u.2):=rfl
 rw [ev] at hok hx
 refine hs _ _ _ _ _ _ _ he (fun a ts1 pv1 ea he1 hl1 ga=>?_) fun z ez=>hx z (by rw [ez]; rfl)
 rw [ea] at hok hx
 refine QJ he1 ht (fun m e1 he2 hl2=>hok a _ _ ?_ he2 (by omega) ga) fun e1=>hx _ ?_
 ·show (expect t ts1).bind _=_
  rw [e1]; rfl
 ·show (expect t ts1).bind _=_
  rw [e1]; rfl
theorem qba {t:Tok} (h:kd t≠zQ):∀ x,t≠.name x:=fun x e=>h (by rw [e]; rfl)
theorem Zv (he:Ends ts)
  (h:∀ m x,next ts=.name x->m.tok=.name x->m.place=here ts->Ends (ts.drop 1)->(ts.drop 1).length<ts.length->Run Q E ⟨ts.drop 1,m,lv,W,B,G⟩)
  (hx:(∀ x,next ts≠.name x)->E ⟨3,here ts⟩):Run Q E ⟨ts,pv,lv,.t zQ::W,B,G⟩ :=
 qbH he (by intro z; cases z) (fun m e e2 e3 h1 h2=>by
  obtain ⟨x,ex⟩:=qaJ.mp e
  exact h m x ex (e2.trans ex) e3 h1 h2) fun e=>hx (qba e)
theorem Jq {x:Text} (h:next ts=.name x):nameTok ts=.ok (x,ts.drop 1):=by unfold nameTok; rw [h]
theorem Jr (h:∀ x,next ts≠.name x):nameTok ts=.error ⟨3,here ts⟩:=by
 unfold nameTok
 cases e:next ts with
 | name x=>exact absurd e (h x)
 | _=>rfl
theorem qfZ (hs:qX .EXPR lv sub):∀ (n:Nat) (ts:Marks) (pv:Mark) (W:List Sym) (B:List Tree) (G:List Bg),Ends ts->ts.length<n ->
  (∀ l ts' pv',pieces sub n ts=.ok (l,ts')->Ends ts'->ts'.length<ts.length->qz l=true->Run Q E ⟨ts',pv',lv,W,B++l,G⟩) ->
  (∀ y,pieces sub n ts=.error y->E y)->Run Q E ⟨ts,pv,lv,.p .PIECES::.t .unquote::W,B,G⟩:=by
 intro n
 induction n with
 | zero=>intro ts pv W B G _ h; exact absurd h (Nat.not_lt_zero _)
 | succ n ih=>
  intro ts pv W B G he hn hok hx
  refine zm he ?_
  show Run Q E ⟨ts,pv,lv,(if kd (next ts)=Zu then [.t Zu,.a .begin,.a .label,.a (.fin .piece),.p .PIECES] else if kd (next ts)=.hole then [.t .hole,.p .EXPR,.t .unhole,.p .PIECES] else [])++.t .unquote::W,B,G⟩
  by_cases e1:kd (next ts)=Zu
  ·rw [if_pos e1]
   obtain ⟨x,ex⟩:=qhZ.mp e1
   have ev:pieces sub (n+1) ts=also (fun l=>.node .piece [x] []::l) (pieces sub n (ts.drop 1)):=by
    show (match next ts with | .unquote=>_ | .piece x=>_ | .hole=>_ | _=>_)=_
    rw [ex]
   rw [ev] at hok hx
   refine qR he (by intro z; cases z) e1 fun m em _ he1 hl1=>zg (jC (QC ?_))
   have eh:held m.tok=x:=by rw [em,ex]; rfl
   rw [eh]
   refine ih _ _ _ _ _ he1 (by omega) (fun l ts2 pv2 el he2 hl2 gl=>?_) fun z ez=>hx z (by rw [ez]; rfl)
   rw [el] at hok hx
   have:=hok (.node .piece [x] []::l) ts2 pv2 rfl he2 (by omega) (by simp [qz,good,gl])
   rw [List.append_assoc]
   exact this
  ·rw [if_neg e1]
   by_cases e2:kd (next ts)=.hole
   ·rw [if_pos e2]
    have ex:next ts=.hole:=(ql (k:=.hole) rfl).mp e2
    have ev:pieces sub (n+1) ts=(closedBy .unhole sub (ts.drop 1)).bind fun e=>also (fun l=>e.1::l) (pieces sub n e.2):=by
     show (match next ts with | .unquote=>_ | .piece x=>_ | .hole=>_ | _=>_)=_
     rw [ex]
    rw [ev] at hok hx
    refine qR he (by intro z; cases z) e2 fun m em _ he1 hl1=>Ql hs he1 rfl (fun a ts2 pv2 ea he2 hl2 ga=>?_) fun z ez=>hx z (by rw [ez]; rfl)
    rw [ea] at hok hx
    refine ih _ _ _ _ _ he2 (by omega) (fun l ts3 pv3 el he3 hl3 gl=>?_) fun z ez=>hx z (by show also _ (pieces sub n ts2)=_; rw [ez]; rfl)
    have:=hok (a::l) ts3 pv3 (by show also _ (pieces sub n ts2)=_; rw [el]; rfl) he3 (by omega) (by simp [qz,ga,gl])
    rw [List.append_assoc]
    exact this
   ·rw [if_neg e2]
    refine qbH he (by intro z; cases z) (fun m e em _ he1 hl1=>?_) fun e=>hx _ ?_
    ·have ex:next ts=.unquote:=(ql (k:=.unquote) rfl).mp e
     have:=hok [] (ts.drop 1) m (by show (match next ts with | .unquote=>_ | .piece x=>_ | .hole=>_ | _=>_)=_; rw [ex]) he1 hl1 rfl
     rwa [List.append_nil] at this
    ·show (match next ts with | .unquote=>_ | .piece x=>_ | .hole=>_ | _=>_)=_
     cases ex:next ts with
     | unquote=>rw [ex] at e; exact absurd rfl e
     | piece x=>rw [ex] at e1; exact absurd rfl e1
     | hole=>rw [ex] at e2; exact absurd rfl e2
     | _=>rfl
theorem qgQ (hs:qX .EXPR lv sub):∀ (n:Nat) (ts:Marks) (pv:Mark) (W:List Sym) (B:List Tree) (G:List Bg),Ends ts->ts.length<n ->
  (∀ l ts' pv',elements sub n ts=.ok (l,ts')->Ends ts'->ts'.length<ts.length->qz l=true->Run Q E ⟨ts',pv',lv,W,B++l,G⟩) ->
  (∀ y,elements sub n ts=.error y->E y)->Run Q E ⟨ts,pv,lv,.p .EXPR::.p .MLIST::.t sListClose::W,B,G⟩:=by
 intro n
 induction n with
 | zero=>intro ts pv W B G _ h; exact absurd h (Nat.not_lt_zero _)
 | succ n ih=>
  intro ts pv W B G he hn hok hx
  have ev:elements sub (n+1) ts=(sub ts).bind fun e=>
   if next e.2=sComma then also (fun l=>e.1::l) (elements sub n (e.2.drop 1)) else (expect sListClose e.2).bind fun u=>.ok ([e.1],u.2):=rfl
  rw [ev] at hok hx
  refine hs _ _ _ _ _ _ _ he (fun a ts1 pv1 ea he1 hl1 ga=>?_) fun z ez=>hx z (by rw [ez]; rfl)
  rw [ea] at hok hx
  refine zm he1 ?_
  show Run Q E ⟨ts1,pv1,lv,(if kd (next ts1)=sComma then [.t sComma,.p .EXPR,.p .MLIST] else [])++.t sListClose::W,B++[a],G⟩
  by_cases e1:next ts1=sComma
  ·rw [if_pos ((ql (k:=sComma) rfl).mpr e1)]
   have ev2:(Except.ok (a,ts1):Except Fault (Tree × Marks)).bind (fun e=>if next e.2=sComma then also (fun l=>e.1::l) (elements sub n (e.2.drop 1)) else (expect sListClose e.2).bind fun u=>.ok ([e.1],u.2)) =
    also (fun l=>a::l) (elements sub n (ts1.drop 1)):=by
    show (if next ts1=sComma then _ else _)=_
    rw [if_pos e1]
   rw [ev2] at hok hx
   refine qR he1 (by intro z; cases z) ((ql (k:=sComma) rfl).mpr e1) fun m em _ he2 hl2=>?_
   refine ih _ _ _ _ _ he2 (by omega) (fun l ts3 pv3 el he3 hl3 gl=>?_) fun z ez=>hx z (by rw [ez]; rfl)
   have:=hok (a::l) ts3 pv3 (by rw [el]; rfl) he3 (by omega) (by simp [qz,ga,gl])
   rw [List.append_assoc]
   exact this
  ·rw [if_neg fun z=>e1 ((ql (k:=sComma) rfl).mp z)]
   have ev2:(Except.ok (a,ts1):Except Fault (Tree × Marks)).bind (fun e=>if next e.2=sComma then also (fun l=>e.1::l) (elements sub n (e.2.drop 1)) else (expect sListClose e.2).bind fun u=>.ok ([e.1],u.2)) =
    (expect sListClose ts1).bind fun u=>.ok ([a],u.2):=by
    show (if next ts1=sComma then _ else _)=_
    rw [if_neg e1]
   rw [ev2] at hok hx
   refine QJ he1 rfl (fun m e3 he2 hl2=>hok [a] _ _ (by rw [e3]; rfl) he2 (by omega) (by simp [qz,ga])) fun e3=>hx _ (by rw [e3]; rfl)
def Met (g:Bg) (seen:List Text):Prop:=∀ x,x∈g.names ↔ seen.contains x=true
theorem Met.more {g:Bg} {seen:List Text} {x:Text} (h:Met g seen) (f:Nat) (ls:List Text):Met ⟨f,ls,g.names++[x]⟩ (x::seen):=fun y=>by
 show y∈g.names++[x] ↔ _
 rw [List.mem_append,h y,List.contains_cons]
 simp
 constructor
 ·rintro (h | h)
  ·exact .inr h
  ·exact .inl h
 ·rintro (h | h)
  ·exact .inr h
  ·exact .inl h
def qce (Q:MS->Prop) (E:Fault->Prop) (sub:Read Tree) (lv n:Nat) (V:List Sym):Prop :=
 ∀ (seen:List Text) (g:Bg) (ts:Marks) (pv:Mark) (W:List Sym) (B:List Tree) (G:List Bg),Ends ts->ts.length<n->Met g seen->(V≠[.p .BINDS]->∃ x,next ts=.name x) ->
  (∀ l ts' pv' ns,binds sub n seen ts=.ok (l,ts')->Ends ts'->ts'.length<=ts.length->qz (l.map fun x=>x.2)=true->(V≠[.p .BINDS]->l≠[])->Run Q E ⟨ts',pv',lv,W,B++l.map (fun x=>x.2),⟨g.first,g.labels++l.map (fun x=>x.1),ns⟩::G⟩) ->
  (∀ y,binds sub n seen ts=.error y->E y)->Run Q E ⟨ts,pv,lv,V++W,B,g::G⟩
theorem qc0 (hs:qX .EXPR lv sub) {n:Nat} (ih:qce Q E sub lv n [.p .BINDS]):qce Q E sub lv (n+1) [.t zQ,.p .BOUND,.p .BINDS]:=by
 intro seen g ts pv W B G he hn hm hv hok hx
 obtain ⟨x,ex⟩:=hv (by intro z; cases z)
 have ev:binds sub (n+1) seen ts=if seen.contains x then .error ⟨5,here ts⟩
   else (expect sIs (ts.drop 1)).bind fun u=>(closedBy sSemi sub u.2).bind fun e=>also (fun l=>(x,e.1)::l) (binds sub n (x::seen) e.2):=by
  show (match next ts with | .name x=>_ | _=>_)=_
  rw [ex]
 rw [ev] at hok hx
 refine qR he (by intro z; cases z) (by rw [ex]; rfl) fun m em ep he1 hl1=>?_
 have eh:held m.tok=x:=by rw [em,ex]; rfl
 refine zm he1 ?_
 show Run Q E ⟨ts.drop 1,m,lv,.a .fresh::.a .label::.t sIs::.p .EXPR::.t sSemi::.p .BINDS::W,B,g::G⟩
 refine qcV (fun hn1=>?_) fun hn1=>?_
 ·rw [eh] at hn1 ⊢
  have hns:¬ seen.contains x=true:=fun z=>hn1 ((hm x).mpr z)
  rw [if_neg hns] at hok hx
  refine jC ?_
  rw [eh]
  refine QJ he1 rfl (fun m2 e2 he2 hl2=>?_) fun e2=>hx _ (by rw [e2]; rfl)
  rw [e2] at hok hx
  refine Ql hs he2 rfl (fun a ts3 pv3 ea he3 hl3 ga=>?_) fun z ez=>hx z (by show (closedBy sSemi sub ((ts.drop 1).drop 1)).bind _=_; rw [ez]; rfl)
  refine ih (x::seen) _ ts3 pv3 W (B++[a]) G he3 (by omega) (hm.more _ _) (fun z=>absurd rfl z) (fun l ts4 pv4 ns el he4 hl4 gl _=>?_) fun z ez=>hx z ?_
  ·have:=hok ((x,a)::l) ts4 pv4 ns (by show (closedBy sSemi sub ((ts.drop 1).drop 1)).bind _=_; rw [ea]; show also _ (binds sub n (x::seen) ts3)=_; rw [el]; rfl) he4 (by omega) (by simp only [List.map_cons,qz,ga,gl,Bool.and_self]) (fun _ z=>by cases z)
   simp only [List.map_cons,List.append_assoc,List.singleton_append] at this ⊢
   exact this
  ·show (closedBy sSemi sub ((ts.drop 1).drop 1)).bind _=_
   rw [ea]
   show also _ (binds sub n (x::seen) ts3)=_
   rw [ez]; rfl
 ·rw [eh] at hn1
  rw [if_pos ((hm x).mp hn1)] at hx
  rw [ep]
  exact hx _ rfl
theorem qc1 (hs:qX .EXPR lv sub):∀ n,qce Q E sub lv n [.p .BINDS]:=by
 intro n
 induction n with
 | zero=>intro seen g ts pv W B G _ h; exact absurd h (Nat.not_lt_zero _)
 | succ n ih=>
  intro seen g ts pv W B G he hn hm _ hok hx
  refine zm (W:=W) he ?_
  show Run Q E ⟨ts,pv,lv,(if kd (next ts)=zQ then [.t zQ,.p .BOUND,.p .BINDS] else [])++W,B,g::G⟩
  by_cases e1:kd (next ts)=zQ
  ·rw [if_pos e1]
   exact qc0 hs ih seen g ts pv W B G he hn hm (fun _=>qaJ.mp e1) (fun l ts' pv' ns h1 h2 h3 h4 _=>hok l ts' pv' ns h1 h2 h3 h4 fun z=>absurd rfl z) hx
  ·rw [if_neg e1]
   have ev:binds sub (n+1) seen ts=.ok ([],ts):=by
    show (match next ts with | .name x=>_ | _=>_)=_
    cases ex:next ts with
    | name x=>exact absurd ex (qba e1 x)
    | _=>rfl
   have:=hok [] ts pv g.names ev he (Nat.le_refl _) rfl fun z=>absurd rfl z
   simp only [List.map_nil,List.append_nil] at this
   exact this
theorem qbI {k:Kind} (hk:k=.record \/ k=.recur) (hs:qX .EXPR lv sub) (he:Ends ts)
  (hok:∀ e ts' pv',fieldsOf k sub ts=.ok (e,ts')->Ends ts'->ts'.length<ts.length->good e=true->Run Q E ⟨ts',pv',lv,W,B++[e],G⟩)
  (hx:∀ y,fieldsOf k sub ts=.error y->E y):Run Q E ⟨ts,pv,lv,.a .begin::.p .BINDS::.t sUnbrace::.a (.fin k)::W,B,G⟩:=by
 have ev:fieldsOf k sub ts=(binds sub (ts.length+1) [] ts).bind fun l=>(expect sUnbrace l.2).bind fun u=>.ok (.node k (l.1.map fun x=>x.1) (l.1.map fun x=>x.2),u.2):=rfl
 rw [ev] at hok hx
 refine zg (qc1 hs (ts.length+1) [] ⟨B.length,[],[]⟩ ts pv _ B G he (Nat.lt_succ_self _) (fun x=>by simp) (fun z=>absurd rfl z) (fun l ts1 pv1 ns el he1 hl1 gl _=>?_) fun z ez=>hx z (by rw [ez]; rfl))
 rw [el] at hok hx
 refine QJ he1 rfl (fun m e2 he2 hl2=>zB (hok _ _ _ (by show (expect sUnbrace ts1).bind _=_; rw [e2]; rfl) he2 (by omega) ?_)) fun e2=>hx _ (by show (expect sUnbrace ts1).bind _=_; rw [e2]; rfl)
 rcases hk with rfl | rfl <;> simp [good,gl]
end
end RM
end
section
set_option autoImplicit false
namespace RM
open Vastoa
section
variable {lv:Nat} {sub:Read Tree}
theorem qd7 (hs:qX .EXPR lv sub):qX .ATOM lv (atom sub):=by
 intro Q E ts pv W B G he hok hx
 refine zm he ?_
 simp only [qw]
 by_cases e1:kd (next ts)=zQ
 ·rw [if_pos e1]
  obtain ⟨x,ex⟩:=qaJ.mp e1
  refine qR he (by intro z; cases z) e1 fun m em _ he1 hl1=>zg (jC (QC (hok _ _ _ ?_ he1 hl1 rfl)))
  have eh:held m.tok=x:=by rw [em,ex]; rfl
  rw [eh]
  unfold atom; rw [ex]; rfl
 rw [if_neg e1]
 by_cases e2:kd (next ts)=qd6
 ·rw [if_pos e2]
  obtain ⟨x,ex⟩:=qj8.mp e2
  refine qR he (by intro z; cases z) e2 fun m em _ he1 hl1=>zg (jC (QC (hok _ _ _ ?_ he1 hl1 rfl)))
  have eh:held m.tok=x:=by rw [em,ex]; rfl
  rw [eh]
  unfold atom; rw [ex]; rfl
 rw [if_neg e2]
 by_cases e3:kd (next ts)=.word wTrue
 ·rw [if_pos e3]
  have ex:=(ql (k:=.word wTrue) rfl).mp e3
  refine qR he (by intro z; cases z) e3 fun m em _ he1 hl1=>zg (QC (hok _ _ _ ?_ he1 hl1 rfl))
  unfold atom; rw [ex]; rfl
 rw [if_neg e3]
 by_cases e4:kd (next ts)=.word wFalse
 ·rw [if_pos e4]
  have ex:=(ql (k:=.word wFalse) rfl).mp e4
  refine qR he (by intro z; cases z) e4 fun m em _ he1 hl1=>zg (QC (hok _ _ _ ?_ he1 hl1 rfl))
  unfold atom; rw [ex]; rfl
 rw [if_neg e4]
 by_cases e5:kd (next ts)=.word wNone
 ·rw [if_pos e5]
  have ex:=(ql (k:=.word wNone) rfl).mp e5
  refine qR he (by intro z; cases z) e5 fun m em _ he1 hl1=>zg (QC (hok _ _ _ ?_ he1 hl1 rfl))
  unfold atom; rw [ex]; rfl
 rw [if_neg e5]
 by_cases e6:kd (next ts)=.quote
 ·rw [if_pos e6]
  have ex:=(ql (k:=.quote) rfl).mp e6
  have ev:atom sub ts=also (fun l=>.node .text [] l) (pieces sub ((ts.drop 1).length+1) (ts.drop 1)):=by unfold atom; rw [ex]
  rw [ev] at hok hx
  refine qR he (by intro z; cases z) e6 fun m em _ he1 hl1=>zg ?_
  refine qfZ hs _ _ _ _ _ _ he1 (Nat.lt_succ_self _) (fun l ts2 pv2 el he2 hl2 gl=>zB (hok _ _ _ (by rw [el]; rfl) he2 (by omega) (by simp [good,gl]))) fun z ez=>hx z (by rw [ez]; rfl)
 rw [if_neg e6]
 by_cases e7:kd (next ts)=.sign [40]
 ·rw [if_pos e7]
  have ex:=(ql (k:=.sign [40]) rfl).mp e7
  have ev:atom sub ts=closedBy sClose sub (ts.drop 1):=by unfold atom; rw [ex]; rfl
  rw [ev] at hok hx
  refine qR he (by intro z; cases z) e7 fun m em _ he1 hl1=>?_
  exact Ql hs he1 rfl (fun a ts2 pv2 ea he2 hl2 ga=>hok _ _ _ ea he2 (by omega) ga) hx
 rw [if_neg e7]
 by_cases e8:kd (next ts)=.sign [91]
 ·rw [if_pos e8]
  have ex:=(ql (k:=.sign [91]) rfl).mp e8
  have ev:atom sub ts=if next (ts.drop 1)=sListClose then .ok (.node .list [] [],(ts.drop 1).drop 1) else also (fun l=>.node .list [] l) (elements sub ((ts.drop 1).length+1) (ts.drop 1)):=by unfold atom; rw [ex]; rfl
  rw [ev] at hok hx
  refine qR he (by intro z; cases z) e8 fun m em _ he1 hl1=>zg (zm he1 ?_)
  simp only [qw]
  by_cases e9:next (ts.drop 1)=sListClose
  ·rw [if_pos ((ql (k:=sListClose) rfl).mpr e9)]
   rw [if_pos e9] at hok
   refine qR he1 (by intro z; cases z) ((ql (k:=sListClose) rfl).mpr e9) fun m2 _ _ he2 hl2=>QC (hok _ _ _ rfl he2 (by omega) rfl)
  ·rw [if_neg fun z=>e9 ((ql (k:=sListClose) rfl).mp z)]
   rw [if_neg e9] at hok hx
   exact qgQ hs _ _ _ _ _ _ he1 (Nat.lt_succ_self _) (fun l ts2 pv2 el he2 hl2 gl=>zB (hok _ _ _ (by rw [el]; rfl) he2 (by omega) (by simp [good,gl]))) fun z ez=>hx z (by rw [ez]; rfl)
 rw [if_neg e8]
 by_cases e9:kd (next ts)=sBrace
 ·rw [if_pos e9]
  have ex:=(ql (k:=sBrace) rfl).mp e9
  have ev:atom sub ts=fieldsOf .record sub (ts.drop 1):=by unfold atom; rw [ex]; rfl
  rw [ev] at hok hx
  refine qR he (by intro z; cases z) e9 fun m em _ he1 hl1=>?_
  exact qbI (.inl rfl) hs he1 (fun a ts2 pv2 ea he2 hl2 ga=>hok _ _ _ ea he2 (by omega) ga) hx
 rw [if_neg e9]
 refine qbH he (by intro z; cases z) (fun m e em _ he1 hl1=>?_) fun e=>hx _ ?_
 ·have ex:=(ql (k:=.word wRec) rfl).mp e
  have ev:atom sub ts=(expect sBrace (ts.drop 1)).bind fun u=>fieldsOf .recur sub u.2:=by unfold atom; rw [ex]; rfl
  rw [ev] at hok hx
  refine QJ he1 rfl (fun m2 e3 he2 hl2=>?_) fun e3=>hx _ (by rw [e3]; rfl)
  rw [e3] at hok hx
  exact qbI (.inr rfl) hs he2 (fun a ts2 pv2 ea he2 hl2 ga=>hok _ _ _ ea he2 (by omega) ga) hx
 ·unfold atom
  cases ex:next ts with
  | name x=>rw [ex] at e1; exact absurd rfl e1
  | num x=>rw [ex] at e2; exact absurd rfl e2
  | quote=>rw [ex] at e6; exact absurd rfl e6
  | word x=>
   rw [ex] at e3 e4 e5 e
   show (if x=wTrue then _ else if x=wFalse then _ else if x=wNone then _ else if x=wRec then _ else _)=_
   rw [if_neg (by rintro rfl; exact e3 rfl),if_neg (by rintro rfl; exact e4 rfl),if_neg (by rintro rfl; exact e5 rfl),if_neg (by rintro rfl; exact e rfl)]
   rfl
  | sign x=>
   rw [ex] at e7 e8 e9
   show (if x=[40] then _ else if x=[91] then _ else if x=[123] then _ else _)=_
   rw [if_neg (by rintro rfl; exact e7 rfl),if_neg (by rintro rfl; exact e8 rfl),if_neg (by rintro rfl; exact e9 rfl)]
   rfl
  | _=>rfl
theorem qgR {Q:MS->Prop} {E:Fault->Prop}:∀ (n:Nat) (g:Bg) (ts:Marks) (pv:Mark) (W:List Sym) (B:List Tree) (G:List Bg),Ends ts->ts.length<n ->
  (∀ l ts' pv',path n ts=.ok (l,ts')->Ends ts'->ts'.length<=ts.length->Run Q E ⟨ts',pv',lv,W,B,⟨g.first,g.labels++l,g.names⟩::G⟩) ->
  (∀ y,path n ts=.error y->E y)->Run Q E ⟨ts,pv,lv,.p .MDOTS::W,B,g::G⟩:=by
 intro n
 induction n with
 | zero=>intro g ts pv W B G _ h; exact absurd h (Nat.not_lt_zero _)
 | succ n ih=>
  intro g ts pv W B G he hn hok hx
  refine zm he ?_
  simp only [qw]
  by_cases e1:next ts=sDot
  ·rw [if_pos ((ql (k:=sDot) rfl).mpr e1)]
   have ev:path (n+1) ts=(nameTok (ts.drop 1)).bind fun x=>also (fun l=>x.1::l) (path n x.2):=by
    show (if next ts=sDot then _ else _)=_
    rw [if_pos e1]
   rw [ev] at hok hx
   refine qR he (by intro z; cases z) ((ql (k:=sDot) rfl).mpr e1) fun m em _ he1 hl1=>?_
   refine Zv he1 (fun m2 x ex em2 _ he2 hl2=>?_) fun hno=>hx _ (by rw [Jr hno]; rfl)
   rw [Jq ex] at hok hx
   refine jC ?_
   have eh:held m2.tok=x:=by rw [em2]; rfl
   rw [eh]
   refine ih _ _ _ _ _ _ he2 (by omega) (fun l ts3 pv3 el he3 hl3=>?_) fun z ez=>hx z (by show also _ (path n ((ts.drop 1).drop 1))=_; rw [ez]; rfl)
   have:=hok (x::l) ts3 pv3 (by show also _ (path n ((ts.drop 1).drop 1))=_; rw [el]; rfl) he3 (by omega)
   simp only [List.append_assoc,List.singleton_append] at this ⊢
   exact this
  ·rw [if_neg fun z=>e1 ((ql (k:=sDot) rfl).mp z)]
   have ev:path (n+1) ts=.ok ([],ts):=by
    show (if next ts=sDot then _ else _)=_
    rw [if_neg e1]
   have:=hok [] ts pv ev he (Nat.le_refl _)
   rw [List.append_nil] at this
   exact this
theorem qft (hs:qX .EXPR lv sub):qX .SEL lv (sel sub):=by
 intro Q E ts pv W B G he hok hx
 refine zm he ?_
 simp only [qw]
 have ev:sel sub ts=(atom sub ts).bind fun a=>(path (a.2.length+1) a.2).bind fun p=>
  if p.1.isEmpty then .ok (a.1,p.2) else if next p.2=sAsk then also (fun d=>.node .get p.1 [a.1,d]) (atom sub (p.2.drop 1)) else .ok (.node .get p.1 [a.1],p.2):=rfl
 rw [ev] at hok hx
 refine qd7 hs _ _ _ _ _ _ _ he (fun a ts1 pv1 ea he1 hl1 ga=>?_) fun z ez=>hx z (by rw [ez]; rfl)
 rw [ea] at hok hx
 replace hok:∀ e ts' pv',((path (ts1.length+1) ts1).bind fun p=>
  if p.1.isEmpty then .ok (a,p.2) else if next p.2=sAsk then also (fun d=>.node .get p.1 [a,d]) (atom sub (p.2.drop 1)) else .ok (.node .get p.1 [a],p.2))=.ok (e,ts')->Ends ts'->ts'.length<ts.length->good e=true->Run Q E ⟨ts',pv',lv,W,B++[e],G⟩:=hok
 replace hx:∀ y,((path (ts1.length+1) ts1).bind fun p=>
  if p.1.isEmpty then .ok (a,p.2) else if next p.2=sAsk then also (fun d=>.node .get p.1 [a,d]) (atom sub (p.2.drop 1)) else .ok (.node .get p.1 [a],p.2))=.error y->E y:=hx
 refine zm he1 ?_
 simp only [qw]
 by_cases e1:next ts1=sDot
 ·rw [if_pos ((ql (k:=sDot) rfl).mpr e1)]
  have ev1:path (ts1.length+1) ts1=(nameTok (ts1.drop 1)).bind fun x=>also (fun l=>x.1::l) (path ts1.length x.2):=by
   show (if next ts1=sDot then _ else _)=_
   rw [if_pos e1]
  rw [ev1] at hok hx
  refine qR he1 (by intro z; cases z) ((ql (k:=sDot) rfl).mpr e1) fun m em _ he2 hl2=>QV ?_
  refine Zv he2 (fun m2 x ex em2 _ he3 hl3=>?_) fun hno=>hx _ (by rw [Jr hno]; rfl)
  rw [Jq ex] at hok hx
  refine jC ?_
  have eh:held m2.tok=x:=by rw [em2]; rfl
  rw [eh]
  refine qgR ts1.length _ _ _ _ _ _ he3 (by omega) (fun l ts4 pv4 el he4 hl4=>?_) fun z ez=>hx z (by show (also _ (path ts1.length ((ts1.drop 1).drop 1))).bind _=_; rw [ez]; rfl)
  have ev2:((Except.ok (x,(ts1.drop 1).drop 1):Except Fault (Text × Marks)).bind fun x=>also (fun l=>x.1::l) (path ts1.length x.2))=.ok (x::l,ts4):=by
   show also _ (path ts1.length ((ts1.drop 1).drop 1))=_
   rw [el]; rfl
  rw [ev2] at hok hx
  replace hok:∀ e ts' pv',(if next ts4=sAsk then also (fun d=>.node .get (x::l) [a,d]) (atom sub (ts4.drop 1)) else .ok (.node .get (x::l) [a],ts4))=.ok (e,ts')->Ends ts'->ts'.length<ts.length->good e=true->Run Q E ⟨ts',pv',lv,W,B++[e],G⟩:=hok
  replace hx:∀ y,(if next ts4=sAsk then also (fun d=>.node .get (x::l) [a,d]) (atom sub (ts4.drop 1)) else (.ok (.node .get (x::l) [a],ts4):Except Fault (Tree × Marks)))=.error y->E y:=hx
  refine zm he4 ?_
  simp only [qw]
  by_cases e2:next ts4=sAsk
  ·rw [if_pos ((ql (k:=sAsk) rfl).mpr e2)]
   rw [if_pos e2] at hok hx
   refine qR he4 (by intro z; cases z) ((ql (k:=sAsk) rfl).mpr e2) fun m5 _ _ he5 hl5=>?_
   refine qd7 hs _ _ _ _ _ _ _ he5 (fun d ts6 pv6 ed he6 hl6 gd=>?_) fun z ez=>hx z (by rw [ez]; rfl)
   have e3:B++[a]++[d]=B++[a,d]:=by simp
   rw [e3]
   exact zB (hok _ _ _ (by rw [ed]; rfl) he6 (by omega) (by simp [good,qz,ga,gd]))
  ·rw [if_neg fun z=>e2 ((ql (k:=sAsk) rfl).mp z)]
   rw [if_neg e2] at hok
   exact zB (l:=[a]) (hok _ _ _ rfl he4 (by omega) (by simp [good,qz,ga]))
 ·rw [if_neg fun z=>e1 ((ql (k:=sDot) rfl).mp z)]
  have ev1:path (ts1.length+1) ts1=.ok ([],ts1):=by
   show (if next ts1=sDot then _ else _)=_
   rw [if_neg e1]
  rw [ev1] at hok
  exact hok a ts1 pv1 rfl he1 hl1 ga
theorem qh1 (hs:qX .EXPR lv sub):qh0 .ARGS lv (arguments sub):=by
 intro n
 induction n with
 | zero=>intro Q E a ts pv W B G _ h; exact absurd h (Nat.not_lt_zero _)
 | succ n ih=>
  intro Q E a ts pv W B G he hn ga hok hx
  refine zm he ?_
  simp only [qw,qgO]
  by_cases e1:begins (next ts)=true
  ·rw [if_pos e1]
   have ev:arguments sub (n+1) a ts=(sel sub ts).bind fun x=>arguments sub n (.node .app [] [a,x.1]) x.2:=by
    show (if begins (next ts)=true then _ else _)=_
    rw [if_pos e1]
   rw [ev] at hok hx
   refine zm he (QV (qft hs _ _ _ _ _ _ _ he (fun b ts2 pv2 eb he2 hl2 gb=>?_) fun z ez=>hx z (by rw [ez]; rfl)))
   rw [eb] at hok hx
   have e3:B++[a]++[b]=B++[a,b]:=by simp
   rw [e3]
   exact zB (ih _ _ _ _ _ _ _ _ he2 (by omega) (by simp [good,qz,ga,gb]) (fun e ts' pv' h1 h2 h3 h4=>hok e ts' pv' h1 h2 (by omega) h4) hx)
  ·rw [if_neg e1]
   refine hok a ts pv ?_ he (Nat.le_refl _) ga
   show (if begins (next ts)=true then _ else _)=_
   rw [if_neg e1]
theorem qi9 (hs:qX .EXPR lv sub):qX .APP lv (app sub):=by
 intro Q E ts pv W B G he hok hx
 refine zm he ?_
 simp only [qw]
 have ev:app sub ts=(sel sub ts).bind fun f=>arguments sub (f.2.length+1) f.1 f.2:=rfl
 rw [ev] at hok hx
 refine qft hs _ _ _ _ _ _ _ he (fun a ts1 pv1 ea he1 hl1 ga=>?_) fun z ez=>hx z (by rw [ez]; rfl)
 rw [ea] at hok hx
 exact qh1 hs _ _ _ _ _ _ _ _ _ he1 (Nat.lt_succ_self _) ga (fun e ts' pv' h1 h2 h3 h4=>hok e ts' pv' h1 h2 (by omega) h4) hx
theorem qfu (hs:qX .EXPR lv sub):qX .NEG lv (neg sub):=qab (qi9 hs) rfl (fun e h=>by simp [good,qz,h]) fun _=>rfl
theorem qd8 (hs:qX .EXPR lv sub):qX .PROD lv (prod sub) :=
 Jp (w:=.MPROD) (qfu hs) (Jo (qfu hs) (by simp [zK]) fun k=>by
  by_cases h:k=.sign [42]
  ·subst h; rfl
  ·have h':¬ Tok.sign [42]=k:=fun z=>h z.symm
   simp [qw,h,h']) fun _=>rfl
theorem qja (hs:qX .EXPR lv sub):qX .SUM lv (sum sub) :=
 Jp (w:=.MSUM) (qd8 hs) (Jo (qd8 hs) (by simp [zK]) fun k=>by
  by_cases h:k=.sign [43]
  ·subst h; rfl
  ·have h':¬ Tok.sign [43]=k:=fun z=>h z.symm
   by_cases q:k=sMinus
   ·subst q; rfl
   ·have q':¬ Tok.sign [45]=k:=fun z=>q z.symm
    simp [qw,h,h',q,q']) fun _=>rfl
theorem qh2 (hs:qX .EXPR lv sub):qX .JOIN lv (join sub):=qcX (w:=.MJOIN) (qja hs) rfl (fun _=>rfl) fun _=>rfl
theorem qfv (hs:qX .EXPR lv sub):qX .UPD lv (upd sub):=qcX (w:=.MUPD) (qh2 hs) rfl (fun _=>rfl) fun _=>rfl
def qcf (sub:Read Tree) (a:Tree) (ts1:Marks):Except Fault (Tree × Marks):=match compared.find? fun p=>p.1=next ts1 with
 | some p=>also (fun b=>.node (.op p.2) [] [a,b]) (upd sub (ts1.drop 1))
 | none=>if next ts1=.word wHas then also (fun x=>.node .has [x] [a]) (nameTok (ts1.drop 1)) else .ok (a,ts1)
theorem qjb (hs:qX .EXPR lv sub):qX .CMP lv (cmp sub):=by
 intro Q E ts pv W B G he hok hx
 refine zm he ?_
 simp only [qw]
 have ev:cmp sub ts=(upd sub ts).bind fun a=>match compared.find? fun p=>p.1=next a.2 with
  | some p=>also (fun b=>.node (.op p.2) [] [a.1,b]) (upd sub (a.2.drop 1))
  | none=>if next a.2=.word wHas then also (fun x=>.node .has [x] [a.1]) (nameTok (a.2.drop 1)) else .ok a:=rfl
 rw [ev] at hok hx
 refine qfv hs _ _ _ _ _ _ _ he (fun a ts1 pv1 ea he1 hl1 ga=>?_) fun z ez=>hx z (by rw [ez]; rfl)
 rw [ea] at hok hx
 refine zm he1 ?_
 have hch:qw .MCMP (kd (next ts1))=match compared.find? fun p=>decide (p.1=next ts1) with
   | some p=>[.t p.1,.a .take,.p .UPD,.a (.fin (.op p.2))]
   | none=>if next ts1=.word wHas then [.t (.word wHas),.a .take,.t zQ,.a .label,.a (.fin .has)] else []:=by
  rw [<- qcd compared (by simp [compared,zK]) (next ts1)]
  have eh:(next ts1=.word wHas)=(kd (next ts1)=.word wHas):=propext (ql (k:=.word wHas) rfl).symm
  simp only [eh]
  generalize kd (next ts1)=k
  by_cases h1:k=.sign [61,61]
  ·subst h1; rfl
  by_cases h2:k=.sign [33,61]
  ·subst h2; rfl
  by_cases h3:k=.sign [60]
  ·subst h3; rfl
  by_cases h4:k=.sign [60,61]
  ·subst h4; rfl
  have h1':¬ Tok.sign [61,61]=k:=fun z=>h1 z.symm
  have h2':¬ Tok.sign [33,61]=k:=fun z=>h2 z.symm
  have h3':¬ Tok.sign [60]=k:=fun z=>h3 z.symm
  have h4':¬ Tok.sign [60,61]=k:=fun z=>h4 z.symm
  simp [qw,compared,h1,h2,h3,h4,h1',h2',h3',h4']
 rw [hch]
 replace hok:∀ e ts' pv',qcf sub a ts1=.ok (e,ts')->Ends ts'->ts'.length<ts.length->good e=true->Run Q E ⟨ts',pv',lv,W,B++[e],G⟩:=hok
 replace hx:∀ y,qcf sub a ts1=.error y->E y:=hx
 unfold qcf at hok hx
 cases ef:compared.find? fun p=>decide (p.1=next ts1) with
 | some p=>
  rw [ef] at hok hx
  have hp:zK p.1=true:=(show ∀ q∈compared,zK q.1=true by simp [compared,zK]) p (List.mem_of_find?_eq_some ef)
  have e1:p.1=next ts1:=of_decide_eq_true (List.find?_some (p:=fun p:Tok × Op=>decide (p.1=next ts1)) ef)
  refine qR he1 (Qt hp) ((ql hp).mpr e1.symm) fun m _ _ he2 hl2=>QV ?_
  refine qfv hs _ _ _ _ _ _ _ he2 (fun b ts3 pv3 eb he3 hl3 gb=>?_) fun z ez=>hx z (by show also _ (upd sub (ts1.drop 1))=_; rw [ez]; rfl)
  have e3:B++[a]++[b]=B++[a,b]:=by simp
  rw [e3]
  exact zB (hok _ _ _ (by show also _ (upd sub (ts1.drop 1))=_; rw [eb]; rfl) he3 (by omega) (by simp [good,qz,ga,gb]))
 | none=>
  rw [ef] at hok hx
  by_cases e1:next ts1=.word wHas
  ·rw [if_pos e1] at hok hx
   show Run Q E ⟨ts1,pv1,lv,(if next ts1=.word wHas then [.t (.word wHas),.a .take,.t zQ,.a .label,.a (.fin .has)] else [])++W,B++[a],G⟩
   rw [if_pos e1]
   refine qR he1 (by intro z; cases z) ((ql (k:=.word wHas) rfl).mpr e1) fun m _ _ he2 hl2=>QV ?_
   refine Zv he2 (fun m2 x ex em2 _ he3 hl3=>?_) fun hno=>hx _ (by rw [Jr hno]; rfl)
   refine jC ?_
   have eh:held m2.tok=x:=by rw [em2]; rfl
   rw [eh]
   exact zB (l:=[a]) (hok _ _ _ (by rw [Jq ex]; rfl) he3 (by omega) (by simp [good,qz,ga]))
  ·rw [if_neg e1] at hok
   show Run Q E ⟨ts1,pv1,lv,(if next ts1=.word wHas then [.t (.word wHas),.a .take,.t zQ,.a .label,.a (.fin .has)] else [])++W,B++[a],G⟩
   rw [if_neg e1]
   exact hok a ts1 pv1 rfl he1 hl1 ga
theorem qd9 (hs:qX .EXPR lv sub):qX .NOT lv (nots sub):=qab (qjb hs) rfl (fun e h=>by simp [good,qz,h]) fun _=>rfl
theorem qea (hs:qX .EXPR lv sub):qX .AND lv (ands sub) :=
 Jp (w:=.MAND) (qd9 hs) (Jo (qd9 hs) (by simp [zK]) fun k=>by
  by_cases h:k=.word wAnd
  ·subst h; rfl
  ·have h':¬ Tok.word wAnd=k:=fun z=>h z.symm
   simp [qw,h,h']) fun _=>rfl
theorem qjc (hs:qX .EXPR lv sub):qX .OR lv (ors sub) :=
 Jp (w:=.MOR) (qea hs) (Jo (qea hs) (by simp [zK]) fun k=>by
  by_cases h:k=.word wOr
  ·subst h; rfl
  ·have h':¬ Tok.word wOr=k:=fun z=>h z.symm
   simp [qw,h,h']) fun _=>rfl
end
end RM
end
section
set_option autoImplicit false
namespace RM
open Vastoa
theorem jX {A B:Type} (x:A) (f:A->Except Fault B):(Except.ok x:Except Fault A).bind f=f x:=rfl
section
variable {lv:Nat} {sub:Read Tree}
def given (sub:Read Tree) (ts:Marks):Except Fault (List Tree × Marks):=if next (ts.drop 1)=sAsk then also (fun e=>[e]) (sub (ts.drop 2)) else .ok ([],ts.drop 1)
def QK (sub:Read Tree) (n:Nat) (seen:List Text) (x:Text) (d:List Tree × Marks):Except Fault ((List Tree × Bool) × Marks) :=
 if next d.2=sComma then also (fun l=>(.node .param [x] d.1::l.1,l.2)) (params sub n (x::seen) (d.2.drop 1))
 else (expect sUnbrace d.2).bind fun u=>.ok (([.node .param [x] d.1],false),u.2)
theorem qeZ {n:Nat} {seen:List Text} {ts:Marks} {x:Text} (ex:next ts=.name x) :
  params sub (n+1) seen ts=if seen.contains x then .error ⟨5,here ts⟩ else (given sub ts).bind (QK sub n seen x):=by
 show (match next ts with | .name x=>_ | .sign s=>_ | _=>_)=_
 rw [ex]
 rfl
theorem qeb {ts:Marks}:(ts.drop 1).drop 1=ts.drop 2:=by rw [List.drop_drop]
theorem qf0 {Q:MS->Prop} {E:Fault->Prop} (hs:qX .EXPR lv sub):∀ (n:Nat) (seen:List Text) (g:Bg) (ts:Marks) (pv:Mark) (W:List Sym) (B:List Tree) (G:List Bg),Ends ts->ts.length<n->Met g seen ->
  (∀ l dots ts' pv' ns,params sub n seen ts=.ok ((l,dots),ts')->Ends ts'->ts'.length<ts.length->qz l=true ->
   Run Q E ⟨ts',pv',lv,.t sColon::.p .EXPR::.a (.fin (if dots then .openFields else .fields))::W,B++l,⟨g.first,g.labels,ns⟩::G⟩) ->
  (∀ y,params sub n seen ts=.error y->E y)->Run Q E ⟨ts,pv,lv,.p .PARAMS::W,B,g::G⟩:=by
 intro n
 induction n with
 | zero=>intro seen g ts pv W B G _ h; exact absurd h (Nat.not_lt_zero _)
 | succ n ih=>
  intro seen g ts pv W B G he hn hm hok hx
  refine zm he ?_
  simp only [qw]
  by_cases e1:kd (next ts)=qdB
  ·rw [if_pos e1]
   have ex:=(ql (k:=qdB) rfl).mp e1
   have ev:params sub (n+1) seen ts=(expect sUnbrace (ts.drop 1)).bind fun u=>.ok (([],true),u.2):=by
    show (match next ts with | .name x=>_ | .sign s=>_ | _=>_)=_
    rw [ex]; rfl
   rw [ev] at hok hx
   refine qR he (by intro z; cases z) e1 fun m _ _ he1 hl1=>?_
   refine QJ he1 rfl (fun m2 e2 he2 hl2=>?_) fun e2=>hx _ (by rw [e2]; rfl)
   have:=hok [] true _ m2 g.names (by rw [e2]; rfl) he2 (by omega) rfl
   rw [List.append_nil] at this
   exact this
  ·rw [if_neg e1]
   refine Zv he (fun m x ex em ep he1 hl1=>?_) fun hno=>hx _ ?_
   ·rw [qeZ ex] at hok hx
    have eh:held m.tok=x:=by rw [em]; rfl
    refine qcV (fun hn1=>?_) fun hn1=>?_
    ·rw [eh] at hn1 ⊢
     have hns:¬ seen.contains x=true:=fun z=>hn1 ((hm x).mpr z)
     rw [if_neg hns] at hok hx
     refine zg (jC ?_)
     rw [eh]
     have rest:∀ (d:List Tree) (ts2:Marks) (pv2:Mark),given sub ts=.ok (d,ts2)->Ends ts2->ts2.length<ts.length->qz d=true->d.length<=1 ->
       Run Q E ⟨ts2,pv2,lv,.a (.fin .param)::.p .MPARAMS::W,B++d,⟨B.length,[]++[x],[]⟩::⟨g.first,g.labels,g.names++[x]⟩::G⟩:=by
      intro d ts2 pv2 ed he2 hl2 gd ld
      rw [ed] at hok hx
      replace hok:∀ l dots ts' pv' ns,QK sub n seen x (d,ts2)=.ok ((l,dots),ts')->Ends ts'->ts'.length<ts.length->qz l=true ->
       Run Q E ⟨ts',pv',lv,.t sColon::.p .EXPR::.a (.fin (if dots then .openFields else .fields))::W,B++l,⟨g.first,g.labels,ns⟩::G⟩:=hok
      replace hx:∀ y,QK sub n seen x (d,ts2)=.error y->E y:=hx
      have gp:good (.node .param [x] d)=true:=by
       match d,ld,gd with
       | [],_,_=>rfl
       | [a],_,ga=>simp [qz] at ga; simp [good,qz,ga]
      refine zB (zm he2 ?_)
      simp only [qw]
      by_cases e3:next ts2=sComma
      ·rw [if_pos ((ql (k:=sComma) rfl).mpr e3)]
       have ev:QK sub n seen x (d,ts2)=also (fun l=>(.node .param [x] d::l.1,l.2)) (params sub n (x::seen) (ts2.drop 1)):=by
        show (if next ts2=sComma then _ else _)=_
        rw [if_pos e3]
       rw [ev] at hok hx
       refine qR he2 (by intro z; cases z) ((ql (k:=sComma) rfl).mpr e3) fun m3 _ _ he3 hl3=>?_
       refine ih (x::seen) _ _ _ _ _ _ he3 (by omega) (hm.more _ _) (fun l dots ts4 pv4 ns el he4 hl4 gl=>?_) fun z ez=>hx z (by rw [ez]; rfl)
       have:=hok (.node .param [x] d::l) dots ts4 pv4 ns (by rw [el]; rfl) he4 (by omega) (by simp [qz,gp,gl])
       rw [List.append_assoc]
       exact this
      ·rw [if_neg fun z=>e3 ((ql (k:=sComma) rfl).mp z)]
       have ev:QK sub n seen x (d,ts2)=(expect sUnbrace ts2).bind fun u=>.ok (([.node .param [x] d],false),u.2):=by
        show (if next ts2=sComma then _ else _)=_
        rw [if_neg e3]
       rw [ev] at hok hx
       refine QJ he2 rfl (fun m3 e4 he3 hl3=>?_) fun e4=>hx _ (by rw [e4]; rfl)
       exact hok [.node .param [x] d] false _ m3 _ (by rw [e4]; rfl) he3 (by omega) (by simp [qz,gp])
     refine zm he1 ?_
     simp only [qw]
     by_cases e2:next (ts.drop 1)=sAsk
     ·rw [if_pos ((ql (k:=sAsk) rfl).mpr e2)]
      have ev:given sub ts=also (fun e=>[e]) (sub (ts.drop 2)):=by unfold given; rw [if_pos e2]
      refine qR he1 (by intro z; cases z) ((ql (k:=sAsk) rfl).mpr e2) fun m3 _ _ he3 hl3=>?_
      refine hs _ _ _ _ _ _ _ he3 (fun a ts4 pv4 ea he4 hl4 ga=>?_) fun z ez=>hx z ?_
      ·exact rest [a] ts4 pv4 (by rw [ev,<- qeb,ea]; rfl) he4 (by omega) (by simp [qz,ga]) (Nat.le_refl 1)
      ·rw [ev,<- qeb,ez]; rfl
     ·rw [if_neg fun z=>e2 ((ql (k:=sAsk) rfl).mp z)]
      have:=rest [] (ts.drop 1) m (by unfold given; rw [if_neg e2]) he1 hl1 rfl (Nat.zero_le _)
      rw [List.append_nil] at this
      exact this
    ·rw [eh] at hn1
     rw [if_pos ((hm x).mp hn1)] at hx
     rw [ep]
     exact hx _ rfl
   ·show (match next ts with | .name x=>_ | .sign s=>_ | _=>_)=_
    cases ex:next ts with
    | name x=>exact absurd ex (hno x)
    | sign s=>
     rw [ex] at e1
     show (if s=[46,46] then _ else _)=_
     rw [if_neg (by rintro rfl; exact e1 rfl)]
     rfl
    | _=>rfl
def bodyOf (sub:Read Tree) (p:(List Tree × Bool) × Marks):Except Fault (Tree × Marks) :=
 (expect sColon p.2).bind fun v=>also (fun e=>.node (if p.1.2 then .openFields else .fields) [] (p.1.1++[e])) (sub v.2)
theorem qec {Q:MS->Prop} {E:Fault->Prop} {ts:Marks} {pv:Mark} {W:List Sym} {B:List Tree} {G:List Bg} {l:List Tree} {dots:Bool} {ns:List Text} (hs:qX .EXPR lv sub) (he:Ends ts) (gl:qz l=true)
  (hok:∀ e ts' pv',bodyOf sub ((l,dots),ts)=.ok (e,ts')->Ends ts'->ts'.length<ts.length->good e=true->Run Q E ⟨ts',pv',lv,W,B++[e],G⟩)
  (hx:∀ y,bodyOf sub ((l,dots),ts)=.error y->E y):Run Q E ⟨ts,pv,lv,.t sColon::.p .EXPR::.a (.fin (if dots then .openFields else .fields))::W,B++l,⟨B.length,[],ns⟩::G⟩:=by
 have ev:bodyOf sub ((l,dots),ts)=(expect sColon ts).bind fun v=>also (fun e=>.node (if dots then .openFields else .fields) [] (l++[e])) (sub v.2):=rfl
 rw [ev] at hok hx
 refine QJ he rfl (fun m e1 he1 hl1=>?_) fun e1=>hx _ (by rw [e1]; rfl)
 rw [e1] at hok hx
 refine hs _ _ _ _ _ _ _ he1 (fun a ts2 pv2 ea he2 hl2 ga=>?_) fun z ez=>hx z (by rw [jX]; dsimp only; rw [ez]; rfl)
 rw [List.append_assoc]
 refine zB (hok _ _ _ (by rw [jX]; dsimp only; rw [ea]; rfl) he2 (by omega) ?_)
 have gg:qz (l++[a])=true:=by rw [QU,gl]; simp [qz,ga]
 cases dots <;> simp [good,gg]
theorem qed (hs:qX .EXPR lv sub):qX .FUNCTION lv (function sub):=by
 intro Q E ts pv W B G he hok hx
 refine zm he ?_
 simp only [qw]
 by_cases e1:kd (next ts)=zQ
 ·rw [if_pos e1]
  obtain ⟨x,ex⟩:=qaJ.mp e1
  have ev:function sub ts=(expect sColon (ts.drop 1)).bind fun u=>also (fun e=>.node .fn [x] [e]) (sub u.2):=by unfold function; rw [ex]
  rw [ev] at hok hx
  refine qR he (by intro z; cases z) e1 fun m em _ he1 hl1=>zg (jC ?_)
  have eh:held m.tok=x:=by rw [em,ex]; rfl
  rw [eh]
  refine QJ he1 rfl (fun m2 e2 he2 hl2=>?_) fun e2=>hx _ (by rw [e2]; rfl)
  rw [e2] at hok hx
  refine hs _ _ _ _ _ _ _ he2 (fun a ts3 pv3 ea he3 hl3 ga=>?_) fun z ez=>hx z (by rw [jX]; dsimp only; rw [ez]; rfl)
  exact zB (l:=[a]) (hok _ _ _ (by rw [jX]; dsimp only; rw [ea]; rfl) he3 (by omega) (by simp [good,qz,ga]))
 ·rw [if_neg e1]
  have ev:function sub ts=(expect sBrace ts).bind fun u=>
   (if next u.2=sUnbrace then .ok (([],false),u.2.drop 1) else params sub (u.2.length+1) [] u.2).bind (bodyOf sub):=by
   unfold function
   cases ex:next ts with
   | name x=>exact absurd ex (qba e1 x)
   | _=>rfl
  rw [ev] at hok hx
  refine QJ he rfl (fun m e2 he1 hl1=>?_) fun e2=>hx _ (by rw [e2]; rfl)
  rw [e2] at hok hx
  replace hok:∀ e ts' pv',((if next (ts.drop 1)=sUnbrace then .ok (([],false),(ts.drop 1).drop 1) else params sub ((ts.drop 1).length+1) [] (ts.drop 1)).bind (bodyOf sub))=.ok (e,ts')->Ends ts'->ts'.length<ts.length->good e=true->Run Q E ⟨ts',pv',lv,W,B++[e],G⟩:=hok
  replace hx:∀ y,((if next (ts.drop 1)=sUnbrace then .ok (([],false),(ts.drop 1).drop 1) else params sub ((ts.drop 1).length+1) [] (ts.drop 1)).bind (bodyOf sub))=.error y->E y:=hx
  refine zg (zm he1 ?_)
  simp only [qw]
  by_cases e3:next (ts.drop 1)=sUnbrace
  ·rw [if_pos ((ql (k:=sUnbrace) rfl).mpr e3)]
   rw [if_pos e3] at hok hx
   refine qR he1 (by intro z; cases z) ((ql (k:=sUnbrace) rfl).mpr e3) fun m3 _ _ he3 hl3=>?_
   have:=qec (Q:=Q) (E:=E) (B:=B) (G:=G) (W:=W) (pv:=m3) (l:=[]) (dots:=false) (ns:=[]) hs he3 rfl (fun e ts' pv' h1 h2 h3 h4=>hok e ts' pv' h1 h2 (by omega) h4) hx
   rw [List.append_nil] at this
   exact this
  ·rw [if_neg fun z=>e3 ((ql (k:=sUnbrace) rfl).mp z)]
   rw [if_neg e3] at hok hx
   refine qf0 hs _ [] _ _ _ _ _ _ he1 (Nat.lt_succ_self _) (fun x=>by simp) (fun l dots ts4 pv4 ns el he4 hl4 gl=>?_) fun z ez=>hx z (by rw [ez]; rfl)
   rw [el] at hok hx
   exact qec hs he4 gl (fun e ts' pv' h1 h2 h3 h4=>hok e ts' pv' h1 h2 (by omega) h4) hx
theorem qh3 (hs:qX .EXPR lv sub):qX .FORM lv (expr sub):=by
 intro Q E ts pv W B G he hok hx
 refine zm he ?_
 simp only [qw]
 by_cases e1:kd (next ts)=.word wFn
 ·rw [if_pos e1]
  have ex:=(ql (k:=.word wFn) rfl).mp e1
  have ev:expr sub ts=function sub (ts.drop 1):=by unfold expr; rw [if_pos ex]
  rw [ev] at hok hx
  refine qR he (by intro z; cases z) e1 fun m _ _ he1 hl1=>?_
  exact qed hs _ _ _ _ _ _ _ he1 (fun e ts' pv' h1 h2 h3 h4=>hok e ts' pv' h1 h2 (by omega) h4) hx
 rw [if_neg e1]
 have n1:¬ next ts=.word wFn:=fun z=>e1 ((ql (k:=.word wFn) rfl).mpr z)
 by_cases e2:kd (next ts)=.word wLet
 ·rw [if_pos e2]
  have ex:=(ql (k:=.word wLet) rfl).mp e2
  have ev:expr sub ts=letRest sub (ts.drop 1):=by unfold expr; rw [if_neg n1,if_pos ex]
  rw [ev] at hok hx
  refine qR he (by intro z; cases z) e2 fun m _ _ he1 hl1=>zg ?_
  generalize hr:ts.drop 1=r at he1 hl1 hok hx
  have ev2:letRest sub r=(binds sub (r.length+1) [] r).bind fun l=>
   if l.1.isEmpty then wrong l.2 else (expect (.word wIn) l.2).bind fun u=>also (fun e=>.node .letIn (l.1.map fun x=>x.1) ((l.1.map fun x=>x.2)++[e])) (sub u.2):=rfl
  rw [ev2] at hok hx
  by_cases e3:∃ x,next r=.name x
  ·refine qc0 (n:=r.length) hs (qc1 hs _) [] ⟨B.length,[],[]⟩ r m (.t (.word wIn)::.p .EXPR::.a (.fin .letIn)::W) B G he1 (Nat.lt_succ_self _) (fun x=>by simp) (fun _=>e3) (fun l ts2 pv2 ns el he2 hl2 gl ne=>?_) fun z ez=>hx z (by rw [ez]; rfl)
   rw [el] at hok hx
   have hne:¬ l.isEmpty=true:=fun z=>ne (by intro q; cases q) (List.isEmpty_iff.mp z)
   replace hok:∀ e ts' pv',(if l.isEmpty then wrong ts2 else (expect (.word wIn) ts2).bind fun u=>also (fun e=>.node .letIn (l.map fun x=>x.1) ((l.map fun x=>x.2)++[e])) (sub u.2))=.ok (e,ts')->Ends ts'->ts'.length<ts.length->good e=true->Run Q E ⟨ts',pv',lv,W,B++[e],G⟩:=hok
   replace hx:∀ y,(if l.isEmpty then wrong ts2 else (expect (.word wIn) ts2).bind fun u=>also (fun e=>Tree.node .letIn (l.map fun x=>x.1) ((l.map fun x=>x.2)++[e])) (sub u.2))=.error y->E y:=hx
   rw [if_neg hne] at hok hx
   refine QJ he2 rfl (fun m3 e4 he3 hl3=>?_) fun e4=>hx _ (by rw [e4]; rfl)
   rw [e4] at hok hx
   refine hs _ _ _ _ _ _ _ he3 (fun a ts4 pv4 ea he4 hl4 ga=>?_) fun z ez=>hx z (by rw [jX]; dsimp only; rw [ez]; rfl)
   rw [List.append_assoc]
   refine zB (hok _ _ _ (by rw [jX]; dsimp only; rw [ea]; rfl) he4 (by omega) ?_)
   have gg:qz ((l.map fun x=>x.2)++[a])=true:=by rw [QU,gl]; simp [qz,ga]
   simp [good,gg]
  ·have hno:∀ x,next r≠.name x:=fun x z=>e3 ⟨x,z⟩
   refine Zv he1 (fun m2 x ex2 _ _ _ _=>absurd ex2 (hno x)) fun _=>hx _ ?_
   have ev3:binds sub (r.length+1) [] r=.ok ([],r):=by
    show (match next r with | .name x=>_ | _=>_)=_
    cases ex2:next r with
    | name x=>exact absurd ex2 (hno x)
    | _=>rfl
   rw [ev3]
   rfl
 rw [if_neg e2]
 have n2:¬ next ts=.word wLet:=fun z=>e2 ((ql (k:=.word wLet) rfl).mpr z)
 by_cases e3:kd (next ts)=.word wIf
 ·rw [if_pos e3]
  have ex:=(ql (k:=.word wIf) rfl).mp e3
  have ev:expr sub ts=(closedBy (.word wThen) sub (ts.drop 1)).bind fun a=>(closedBy (.word wElse) sub a.2).bind fun b=>also (fun c=>.node .cond [] [a.1,b.1,c]) (sub b.2):=by
   unfold expr; rw [if_neg n1,if_neg n2,if_pos ex]
  rw [ev] at hok hx
  refine qR he (by intro z; cases z) e3 fun m _ _ he1 hl1=>zg ?_
  refine Ql hs he1 rfl (fun a ts2 pv2 ea he2 hl2 ga=>?_) fun z ez=>hx z (by rw [ez]; rfl)
  rw [ea] at hok hx
  refine Ql hs he2 rfl (fun b ts3 pv3 eb he3 hl3 gb=>?_) fun z ez=>hx z (by show (closedBy (.word wElse) sub ts2).bind _=_; rw [ez]; rfl)
  refine hs _ _ _ _ _ _ _ he3 (fun c ts4 pv4 ec he4 hl4 gc=>?_) fun z ez=>hx z ?_
  ·have e4:B++[a]++[b]++[c]=B++[a,b,c]:=by simp
   rw [e4]
   refine zB (hok _ _ _ ?_ he4 (by omega) (by simp [good,qz,ga,gb,gc]))
   show (closedBy (.word wElse) sub ts2).bind _=_
   rw [eb]
   rw [jX]; dsimp only
   rw [ec]; rfl
  ·show (closedBy (.word wElse) sub ts2).bind _=_
   rw [eb]
   rw [jX]; dsimp only
   rw [ez]; rfl
 rw [if_neg e3]
 have n3:¬ next ts=.word wIf:=fun z=>e3 ((ql (k:=.word wIf) rfl).mpr z)
 by_cases e4:kd (next ts)=.word wMust
 ·rw [if_pos e4]
  have ex:=(ql (k:=.word wMust) rfl).mp e4
  have ev:expr sub ts=(closedBy sSemi sub (ts.drop 1)).bind fun a=>also (fun b=>.node .must [] [a.1,b]) (sub a.2):=by
   unfold expr; rw [if_neg n1,if_neg n2,if_neg n3,if_pos ex]
  rw [ev] at hok hx
  refine qR he (by intro z; cases z) e4 fun m _ _ he1 hl1=>zg ?_
  refine Ql hs he1 rfl (fun a ts2 pv2 ea he2 hl2 ga=>?_) fun z ez=>hx z (by rw [ez]; rfl)
  rw [ea] at hok hx
  refine hs _ _ _ _ _ _ _ he2 (fun b ts3 pv3 eb he3 hl3 gb=>?_) fun z ez=>hx z (by rw [jX]; dsimp only; rw [ez]; rfl)
  have e5:B++[a]++[b]=B++[a,b]:=by simp
  rw [e5]
  exact zB (hok _ _ _ (by rw [jX]; dsimp only; rw [eb]; rfl) he3 (by omega) (by simp [good,qz,ga,gb]))
 rw [if_neg e4]
 have n4:¬ next ts=.word wMust:=fun z=>e4 ((ql (k:=.word wMust) rfl).mpr z)
 have ev:expr sub ts=ors sub ts:=by unfold expr; rw [if_neg n1,if_neg n2,if_neg n3,if_neg n4]
 rw [ev] at hok hx
 exact qjc hs _ _ _ _ _ _ _ he hok hx
end
theorem qc2:∀ (n lv:Nat),lv+n=40->qX .EXPR lv (level n)
 | 0,lv,h=>by
  intro Q E ts pv W B G he hok hx
  refine zm he (qcW he (fun z=>absurd (by omega) z) fun _=>hx _ rfl)
 | n+1,lv,h=>by
  intro Q E ts pv W B G he hok hx
  have hs:=qc2 n (lv+1) (by omega)
  refine zm he (qcW he (fun _=>?_) fun z=>absurd z (by omega))
  have ev:level (n+1) ts=expr (level n) ts:=rfl
  rw [ev] at hok hx
  exact qh3 hs _ _ _ _ _ _ _ he (fun e ts' pv' h1 h2 h3 h4=>qgP (hok e ts' pv' h1 h2 h3 h4)) hx
theorem machine {Q:MS->Prop} {E:Fault->Prop} {ts:Marks} {pv:Mark} (he:Ends ts)
  (hok:∀ e u pv',(level DEEP ts).bind (fun e=>(expect .fin e.2).bind fun _=>.ok e.1)=.ok e->good e=true->Q ⟨u,pv',0,[],[e],[]⟩)
  (hx:∀ y,(level DEEP ts).bind (fun e=>(expect .fin e.2).bind fun _=>.ok e.1)=.error y->E y):Run Q E ⟨ts,pv,0,[.p .EXPR,.t .fin],[],[]⟩:=by
 refine qc2 40 0 rfl _ _ _ _ _ _ _ he (fun e ts' pv' h1 h2 h3 h4=>?_) fun z ez=>hx z (by show (level 40 ts).bind _=_; rw [ez]; rfl)
 obtain ⟨m,r,rfl,he',hf⟩:=h2.cons
 by_cases e1:kd m.tok=.fin
 ·have e2:m.tok=.fin:=qgN.mp e1
  refine .next (s':=⟨r,m,0,[],[]++[e],[]⟩) ?_ (.done (hok e r m ?_ h4))
  ·show (if kd m.tok=.fin then _ else _)=_
   rw [if_pos e1]
  ·show (level 40 ts).bind _=_
   rw [h1]
   show (expect .fin (m::r)).bind _=_
   rw [qcY (show next (m::r)=.fin from e2)]
   rfl
 ·have e2:¬ m.tok=.fin:=fun z=>e1 (qgN.mpr z)
  refine .fail (x:=⟨3,m.place⟩) ?_ (hx _ ?_)
  ·show (if kd m.tok=.fin then _ else _)=_
   rw [if_neg e1]
  ·show (level 40 ts).bind _=_
   rw [h1]
   show (expect .fin (m::r)).bind _=_
   rw [qcZ (show next (m::r)≠.fin from e2)]
   rfl
end RM
end
section
set_option autoImplicit false
namespace CM
open Vastoa
structure Here (txt:Text) (n:Nat) (lit:Bool) (O:List Bool) (i:Nat) (T:Marks):Prop where
 le:i<=txt.length
 fuel:txt.length<n+i
 eq:tokens txt=(cut n lit O i (txt.drop i)).map (T ++ ·)
theorem start (txt:Text):Here txt (txt.length+1) false [] 0 []:=⟨Nat.zero_le _,by omega,by
 unfold tokens
 rw [List.drop_zero]
 cases cut (txt.length+1) false [] 0 txt <;> rfl⟩
theorem je {T:Marks} {i:Nat} {t:Tok} {r:Except Fault Marks}:(before i t r).map (T ++ ·)=r.map ((T++[⟨i,t⟩]) ++ ·):=by
 cases r with
 | error f=>rfl
 | ok l=>show Except.ok (T++⟨i,t⟩::l)=Except.ok (T++[⟨i,t⟩]++l); simp
theorem za {txt:Text} {i c:Nat} (h:txt[i]? = some c):txt.drop i=c::txt.drop (i+1):=by
 obtain ⟨hi,rfl⟩:=List.getElem?_eq_some_iff.mp h
 exact List.drop_eq_getElem_cons hi
theorem qbb {txt:Text} {i:Nat} (h:txt[i]? = none):txt.drop i=[]:=List.drop_eq_nil_of_le (List.getElem?_eq_none_iff.mp h)
theorem Qz {txt:Text} {i c:Nat} (h:txt[i]? = some c):i<txt.length:=(List.getElem?_eq_some_iff.mp h).1
section
variable {txt:Text} {n i c:Nat} {O:List Bool} {T:Marks}
theorem Here.pos {lit:Bool} (h:Here txt n lit O i T):∃ m,n=m+1:=⟨n - 1,by have:=h.fuel; have:=h.le; omega⟩
theorem qj9 (h:Here txt n false O i T) (e:txt[i]? = none):tokens txt=.ok (T++[⟨i,.fin⟩]):=by
 obtain ⟨m,rfl⟩:=h.pos
 rw [h.eq,qbb e]
 rfl
theorem qh4 (h:Here txt n false O i T) (e:txt[i]? = some c) (hb:blank c=true):Here txt (n - 1) false O (i+1) T:=by
 obtain ⟨m,rfl⟩:=h.pos
 have hi:=Qz e
 refine ⟨hi,by have:=h.fuel; omega,?_⟩
 rw [h.eq,za e]
 show (if blank c then _ else _:Except Fault Marks).map _=_
 rw [if_pos hb]
 rfl
theorem JG {p:Nat->Bool}:∀ (l:Text) (k:Nat),k<=l.length->(∀ j,j<k->∃ x,l[j]? = some x/\p x=true)->(∀ x,l[k]? = some x->p x=false)->l.takeWhile p=l.take k
 | [],k,h,_,_=>by
  have:k=0:=(by simpa using h); subst this; rfl
 | a::l,0,_,_,h2=>by
  have:=h2 a rfl
  simp [List.takeWhile_cons,this]
 | a::l,k+1,h,h1,h2=>by
  obtain ⟨x,ex,px⟩:=h1 0 (Nat.succ_pos _)
  cases ex
  rw [List.takeWhile_cons,if_pos px,List.take_succ_cons]
  rw [JG l k (by simpa using h) (fun j hj=>h1 (j+1) (by omega)) fun x hx=>h2 x hx]
theorem qee {p:Nat->Bool} {k:Nat} (hk:i+k<=txt.length) (h1:∀ j,j<k->∃ x,txt[i+j]? = some x/\p x=true) (h2:∀ x,txt[i+k]? = some x->p x=false):(txt.drop i).takeWhile p=(txt.drop i).take k :=
 JG _ k (by rw [List.length_drop]; omega) (fun j hj=>by rw [List.getElem?_drop]; exact h1 j hj) fun x hx=>h2 x (by rw [List.getElem?_drop] at hx; exact hx)
theorem qcg {k:Nat} (hk:i+k<=txt.length):((txt.drop i).take k).length=k:=by rw [List.length_take,List.length_drop]; omega
theorem qf1 {k:Nat} (h:Here txt n false O i T) (e:txt[i]? = some 35) (hk:i+k<=txt.length) (h0:0<k) (h1:∀ j,j<k->∃ x,txt[i+j]? = some x/\x≠10) (h2:∀ x,txt[i+k]? = some x->x=10) :
  Here txt (n - 1) false O (i+k) T:=by
 obtain ⟨m,rfl⟩:=h.pos
 have hr:=qee (p:=fun y=>y != 10) hk (fun j hj=>by obtain ⟨x,a,b⟩:=h1 j hj; exact ⟨x,a,by simpa using b⟩) fun x hx=>by have:=h2 x hx; subst this; rfl
 refine ⟨hk,by have:=h.fuel; omega,?_⟩
 rw [h.eq]
 have ed:=za e
 have ev:cut (m+1) false O i (txt.drop i)=cut m false O (i+((txt.drop i).takeWhile fun y=>y != 10).length) ((txt.drop i).drop ((txt.drop i).takeWhile fun y=>y != 10).length):=by
  rw [ed]; rfl
 rw [ev,hr,qcg hk,List.drop_drop]
 rfl
theorem qgS {c:Nat} (h:letter c=true):blank c=false/\c≠35:=by
 unfold letter at h; unfold blank
 simp at h ⊢
 omega
theorem qjd {k:Nat} (h:Here txt n false O i T) (e:txt[i]? = some c) (hl:letter c=true) (hk:i+k<=txt.length) (h0:0<k) (h1:∀ j,j<k->∃ x,txt[i+j]? = some x/\inner x=true) (h2:∀ x,txt[i+k]? = some x->inner x=false) :
  (32<k->tokens txt=.error ⟨2,i⟩)/\(k<=32->Here txt (n - 1) false O (i+k) (T++[⟨i,if reserved.contains ((txt.drop i).take k) then .word ((txt.drop i).take k) else .name ((txt.drop i).take k)⟩])):=by
 obtain ⟨m,rfl⟩:=h.pos
 have hr:=qee hk h1 h2
 have ed:=za e
 obtain ⟨l1,l2⟩:=qgS hl
 have ev:cut (m+1) false O i (txt.drop i)=if 32<((txt.drop i).takeWhile inner).length then .error ⟨2,i⟩
   else before i (if reserved.contains ((txt.drop i).takeWhile inner) then .word ((txt.drop i).takeWhile inner) else .name ((txt.drop i).takeWhile inner))
    (cut m false O (i+((txt.drop i).takeWhile inner).length) ((txt.drop i).drop ((txt.drop i).takeWhile inner).length)):=by
  rw [ed]
  show (if blank c then _ else if c=35 then _ else if letter c then _ else _)=_
  rw [if_neg (by rw [l1]; decide),if_neg l2,if_pos hl]
 rw [hr,qcg hk,List.drop_drop] at ev
 constructor
 ·intro hb
  rw [h.eq,ev,if_pos hb]
  rfl
 ·intro hb
  refine ⟨hk,by have:=h.fuel; omega,?_⟩
  rw [h.eq,ev,if_neg (by omega),je]
  rfl
theorem qh5 {c:Nat} (h:digit c=true):blank c=false/\c≠35/\letter c=false:=by
 unfold digit at h; unfold blank letter
 simp at h ⊢
 omega
theorem qgT {k:Nat} (h:Here txt n false O i T) (e:txt[i]? = some c) (hl:digit c=true) (hk:i+k<=txt.length) (h0:0<k) (h1:∀ j,j<k->∃ x,txt[i+j]? = some x/\digit x=true) (h2:∀ x,txt[i+k]? = some x->digit x=false) :
  ((30<k \/ (c=48/\1<k))->tokens txt=.error ⟨2,i⟩)/\(¬ (30<k \/ (c=48/\1<k))->Here txt (n - 1) false O (i+k) (T++[⟨i,.num ((txt.drop i).take k)⟩])):=by
 obtain ⟨m,rfl⟩:=h.pos
 have hr:=qee hk h1 h2
 have ed:=za e
 obtain ⟨l1,l2,l3⟩:=qh5 hl
 have ev:cut (m+1) false O i (txt.drop i)=if 30<((txt.drop i).takeWhile digit).length \/ (c=48/\1<((txt.drop i).takeWhile digit).length) then .error ⟨2,i⟩
   else before i (.num ((txt.drop i).takeWhile digit))
    (cut m false O (i+((txt.drop i).takeWhile digit).length) ((txt.drop i).drop ((txt.drop i).takeWhile digit).length)):=by
  rw [ed]
  show (if blank c then _ else if c=35 then _ else if letter c then _ else if digit c then _ else _)=_
  rw [if_neg (by rw [l1]; decide),if_neg l2,if_neg (by rw [l3]; decide),if_pos hl]
 rw [hr,qcg hk,List.drop_drop] at ev
 constructor
 ·intro hb
  rw [h.eq,ev,if_pos hb]
  rfl
 ·intro hb
  refine ⟨hk,by have:=h.fuel; omega,?_⟩
  rw [h.eq,ev,if_neg hb,je]
  rfl
theorem qh6 (h:Here txt n false O i T) (e:txt[i]? = some 34):Here txt (n - 1) true O (i+1) (T++[⟨i,.quote⟩]):=by
 obtain ⟨m,rfl⟩:=h.pos
 refine ⟨Qz e,by have:=h.fuel; omega,?_⟩
 rw [h.eq,za e]
 show (before i .quote (cut m true O (i+1) (txt.drop (i+1)))).map _=_
 rw [je]
 rfl
theorem qh7 (h:Here txt n false O i T) (e:txt[i]? = some 123):Here txt (n - 1) false (false::O) (i+1) (T++[⟨i,.sign [123]⟩]):=by
 obtain ⟨m,rfl⟩:=h.pos
 refine ⟨Qz e,by have:=h.fuel; omega,?_⟩
 rw [h.eq,za e]
 show (before i (.sign [123]) (cut m false (false::O) (i+1) (txt.drop (i+1)))).map _=_
 rw [je]
 rfl
theorem qgU {O':List Bool} (h:Here txt n false (true::O') i T) (e:txt[i]? = some 125):Here txt (n - 1) true O' (i+1) (T++[⟨i,.unhole⟩]):=by
 obtain ⟨m,rfl⟩:=h.pos
 refine ⟨Qz e,by have:=h.fuel; omega,?_⟩
 rw [h.eq,za e]
 show (before i .unhole (cut m true O' (i+1) (txt.drop (i+1)))).map _=_
 rw [je]
 rfl
theorem qf2 (h:Here txt n false O i T) (e:txt[i]? = some 125) (hO:O.head? ≠ some true):Here txt (n - 1) false (O.drop 1) (i+1) (T++[⟨i,.sign [125]⟩]):=by
 obtain ⟨m,rfl⟩:=h.pos
 refine ⟨Qz e,by have:=h.fuel; omega,?_⟩
 rw [h.eq,za e]
 show (if O.head? = some true then _ else before i (.sign [125]) (cut m false (O.drop 1) (i+1) (txt.drop (i+1)))).map _=_
 rw [if_neg hO,je]
 rfl
def other (c:Nat):Bool:=!(blank c)&&c != 35 && !(letter c) && !(digit c)&&c != 34&&c != 123&&c != 125
theorem qbJ {b x:Text} (h:signAt b=some x):x=b.take x.length/\0<x.length/\x.length<=b.length:=by
 unfold signAt at h
 split at h
 ·rename_i hs
  cases h
  have:(b.take 2)∈signs2:=List.contains_iff_mem.mp hs
  have l2:(b.take 2).length=2:=by
   simp only [signs2,List.mem_cons,List.not_mem_nil,or_false] at this
   rcases this with e | e | e | e | e | e <;> rw [e] <;> rfl
  have hb:2<=b.length:=by rw [List.length_take] at l2; omega
  exact ⟨by rw [l2],by omega,by omega⟩
 ·split at h
  ·rename_i hs
   cases h
   have:(b.take 1)∈signs1:=List.contains_iff_mem.mp hs
   have l2:(b.take 1).length=1:=by
    simp only [signs1,List.mem_cons,List.not_mem_nil,or_false] at this
    rcases this with e | e | e | e | e | e | e | e | e | e | e | e | e | e <;> rw [e] <;> rfl
   have hb:1<=b.length:=by rw [List.length_take] at l2; omega
   exact ⟨by rw [l2],by omega,by omega⟩
  ·cases h
theorem qje (h:Here txt n false O i T) (e:txt[i]? = some c) (ho:other c=true) :
  (signAt (txt.drop i)=none->tokens txt=.error ⟨2,i⟩)/\∀ x,signAt (txt.drop i)=some x->Here txt (n - 1) false O (i+x.length) (T++[⟨i,.sign x⟩]):=by
 obtain ⟨m,rfl⟩:=h.pos
 have ed:=za e
 have ev:cut (m+1) false O i (txt.drop i)=match signAt (txt.drop i) with
   | some x=>before i (.sign x) (cut m false O (i+x.length) ((txt.drop i).drop x.length))
   | none=>.error ⟨2,i⟩:=by
  rw [ed]
  unfold other at ho
  simp at ho
  obtain ⟨⟨⟨⟨⟨⟨o1,o2⟩,o3⟩,o4⟩,o5⟩,o6⟩,o7⟩:=ho
  show (if blank c then _ else if c=35 then _ else if letter c then _ else if digit c then _ else if c=34 then _ else if c=123 then _ else if c=125 then _ else _)=_
  rw [if_neg (by rw [o1]; decide),if_neg o2,if_neg (by rw [o3]; decide),if_neg (by rw [o4]; decide),if_neg o5,if_neg o6,if_neg o7]
  cases signAt (c::txt.drop (i+1)) <;> rfl
 constructor
 ·intro hs
  rw [h.eq,ev,hs]
  rfl
 ·intro x hs
  obtain ⟨hx,h0,hl⟩:=qbJ hs
  have hl':i+x.length<=txt.length:=by rw [List.length_drop] at hl; have:=Qz e; omega
  refine ⟨hl',by have:=h.fuel; omega,?_⟩
  rw [h.eq,ev,hs]
  show (before i (.sign x) (cut m false O (i+x.length) ((txt.drop i).drop x.length))).map _=_
  rw [je,List.drop_drop]
  rfl
def qbc (txt:Text) (i:Nat) (g:Text) (j:Nat):Prop:=j<=txt.length/\gather i (txt.drop i)=(gather j (txt.drop j)).map fun y=>(g++y.1,y.2.1,y.2.2)
theorem qf3 (h:i<=txt.length):qbc txt i [] i:=⟨h,by cases gather i (txt.drop i) <;> rfl⟩
theorem qgV {i j j' x:Nat} {g:Text} (h:qbc txt i g j) (hj:j'<=txt.length) (e:gather j (txt.drop j)=(gather j' (txt.drop j')).map fun y=>(x::y.1,y.2.1,y.2.2)):qbc txt i (g++[x]) j':=by
 refine ⟨hj,?_⟩
 rw [h.2,e]
 cases gather j' (txt.drop j') with
 | error f=>rfl
 | ok y=>show Except.ok _=Except.ok _; simp
theorem qef {i j:Nat} {g:Text} {f:Fault} (h:qbc txt i g j) (e:gather j (txt.drop j)=.error f):gather i (txt.drop i)=.error f:=by rw [h.2,e]; rfl
theorem qc3 {i j:Nat} {g r:Text} (h:qbc txt i g j) (e:gather j (txt.drop j)=.ok ([],j,r)):gather i (txt.drop i)=.ok (g,j,r):=by
 rw [h.2,e]
 show Except.ok _=Except.ok _
 simp
theorem qf4 {j:Nat} (e:txt[j]? = none):gather j (txt.drop j)=.error ⟨2,j⟩:=by rw [qbb e]; rfl
theorem qdn {j c x:Nat} (e:txt[j]? = some 92) (e2:txt[j+1]? = some c) (u:unescape c=some x):gather j (txt.drop j)=(gather (j+2) (txt.drop (j+2))).map fun y=>(x::y.1,y.2.1,y.2.2):=by
 rw [za e,za e2]
 show (match unescape c with | some x=>_ | none=>_)=_
 rw [u]
theorem qeg {j c:Nat} (e:txt[j]? = some 92) (e2:txt[j+1]? = some c) (u:unescape c=none):gather j (txt.drop j)=.error ⟨2,j⟩:=by
 rw [za e,za e2]
 show (match unescape c with | some x=>_ | none=>_)=_
 rw [u]
theorem qe0 {j:Nat} (e:txt[j]? = some 92) (e2:txt[j+1]? = none):gather j (txt.drop j)=.error ⟨2,j⟩:=by
 rw [za e,qbb e2]
 rfl
theorem qac (j c:Nat) (r:Text) (h:c≠92):gather j (c::r)=if c=34 \/ (c=36/\r.head? = some 123) then .ok ([],j,c::r)
  else if c<32/\c≠9/\c≠10 then .error ⟨2,j⟩ else (gather (j+1) r).map fun y=>(c::y.1,y.2.1,y.2.2):=by
 rw [gather]
 ·intro e; exact absurd e h
 ·intro d r' e; exact absurd e h
theorem Js {j c:Nat} (e:txt[j]? = some c) (h:c≠92):gather j (txt.drop j)=if c=34 \/ (c=36/\txt[j+1]? = some 123) then .ok ([],j,txt.drop j)
  else if c<32/\c≠9/\c≠10 then .error ⟨2,j⟩ else (gather (j+1) (txt.drop (j+1))).map fun y=>(c::y.1,y.2.1,y.2.2):=by
 have hh:(txt.drop (j+1)).head? = txt[j+1]?:=by rw [List.head?_drop]
 rw [za e,qac _ _ _ h,hh]
def Zk (m:Nat) (O:List Bool) (j:Nat) (r:Text):Except Fault Marks:=match r with
 | 36::_::r=>before j .hole (cut m false (true::O) (j+2) r)
 | r=>before j .unquote (cut m false O (j+1) (r.drop 1))
theorem qeh {m:Nat} (g:Text) (j:Nat) (r:Text) (e:gather i (txt.drop i)=.ok (g,j,r)):cut (m+1) true O i (txt.drop i) =
  if g.isEmpty then Zk m O j r else before i (.piece g) (Zk m O j r):=by
 show (gather i (txt.drop i)).bind _=_
 rw [e]
 rfl
def pieceOf (i:Nat) (g:Text):Marks:=if g.isEmpty then [] else [⟨i,.piece g⟩]
theorem qc4 {g:Text} {r:Except Fault Marks}:(if g.isEmpty then r else before i (.piece g) r).map (T ++ ·)=r.map ((T++pieceOf i g) ++ ·):=by
 unfold pieceOf
 by_cases h:g.isEmpty=true
 ·rw [if_pos h,if_pos h,List.append_nil]
 ·rw [if_neg h,if_neg h,je]
theorem qfw {f:Fault} (h:Here txt n true O i T) (e:gather i (txt.drop i)=.error f):tokens txt=.error f:=by
 obtain ⟨m,rfl⟩:=h.pos
 rw [h.eq]
 show ((gather i (txt.drop i)).bind _).map _=_
 rw [e]
 rfl
theorem qgW {j:Nat} {g:Text} (h:Here txt n true O i T) (hj:i<=j) (e:gather i (txt.drop i)=.ok (g,j,txt.drop j)) (e2:txt[j]? = some 34):Here txt (n - 1) false O (j+1) (T++pieceOf i g++[⟨j,.unquote⟩]):=by
 obtain ⟨m,rfl⟩:=h.pos
 refine ⟨Qz e2,by have:=h.fuel; omega,?_⟩
 rw [h.eq,qeh g j _ e,za e2]
 show (if g.isEmpty then before j .unquote (cut m false O (j+1) (txt.drop (j+1))) else before i (.piece g) (before j .unquote (cut m false O (j+1) (txt.drop (j+1))))).map _=_
 rw [qc4,je]
 rfl
theorem qh8 {j:Nat} {g:Text} (h:Here txt n true O i T) (hj:i<=j) (e:gather i (txt.drop i)=.ok (g,j,txt.drop j)) (e2:txt[j]? = some 36) (e3:txt[j+1]? = some 123):Here txt (n - 1) false (true::O) (j+2) (T++pieceOf i g++[⟨j,.hole⟩]):=by
 obtain ⟨m,rfl⟩:=h.pos
 refine ⟨Qz e3,by have:=h.fuel; omega,?_⟩
 rw [h.eq,qeh g j _ e,za e2,za e3]
 show (if g.isEmpty then before j .hole (cut m false (true::O) (j+2) (txt.drop (j+1+1))) else before i (.piece g) (before j .hole (cut m false (true::O) (j+2) (txt.drop (j+1+1))))).map _=_
 rw [qc4,je]
 rfl
end
def Q2:Tok->Bool
 | .word x=>reserved.contains x
 | .sign x=>([[123],[125]]++signs2++signs1).contains x
 | _=>true
def qad (r:Except Fault Marks):Prop:=∀ l,r=.ok l->RM.Ends l/\∀ m∈l,Q2 m.tok=true
theorem qad.before {i:Nat} {t:Tok} {r:Except Fault Marks} (h:qad r) (ht:Q2 t=true) (hf:t≠.fin):qad (Vastoa.before i t r):=by
 intro l e
 cases r with
 | error f=>cases e
 | ok l'=>
  cases e
  obtain ⟨⟨pre,q,rfl,hp⟩,h2⟩:=h l' rfl
  refine ⟨⟨⟨i,t⟩::pre,q,rfl,fun m hm=>?_⟩,fun m hm=>?_⟩
  ·rcases List.mem_cons.mp hm with rfl | hm
   ·exact hf
   ·exact hp m hm
  ·rcases List.mem_cons.mp hm with rfl | hm
   ·exact ht
   ·exact h2 m hm
theorem QL (f:Fault):qad (.error f):=fun l e=>by cases e
theorem qgX {b x:Text} (h:signAt b=some x):Q2 (.sign x)=true:=by
 unfold signAt at h
 unfold Q2
 split at h
 ·rename_i hs
  cases h
  have:=List.contains_iff_mem.mp hs
  exact List.contains_iff_mem.mpr (by simp only [List.mem_append]; exact .inl (.inr this))
 ·split at h
  ·rename_i hs
   cases h
   have:=List.contains_iff_mem.mp hs
   exact List.contains_iff_mem.mpr (by simp only [List.mem_append]; exact .inr this)
  ·cases h
theorem jh:∀ (n:Nat) (lit:Bool) (O:List Bool) (i:Nat) (b:Text),qad (cut n lit O i b)
 | 0,_,_,i,_=>QL _
 | n+1,true,O,i,b=>by
  show qad ((gather i b).bind _)
  cases gather i b with
  | error f=>exact QL f
  | ok g=>
   obtain ⟨g,j,r⟩:=g
   have hr:qad (match r with
    | 36::_::r=>before j .hole (cut n false (true::O) (j+2) r)
    | r=>before j .unquote (cut n false O (j+1) (r.drop 1))):=by
    split
    ·exact (jh n false _ _ _).before rfl (by intro z; cases z)
    ·exact (jh n false _ _ _).before rfl (by intro z; cases z)
   show qad (if g.isEmpty then _ else _)
   split
   ·exact hr
   ·exact hr.before rfl (by intro z; cases z)
 | n+1,false,O,i,[]=>fun l e=>by
  cases e
  exact ⟨⟨[],i,rfl,fun m hm=>by cases hm⟩,fun m hm=>by simp at hm; subst hm; rfl⟩
 | n+1,false,O,i,c::r=>by
  unfold cut
  split
  ·exact jh n false _ _ _
  split
  ·exact jh n false _ _ _
  split
  ·dsimp only
   split
   ·exact QL _
   ·refine (jh n false _ _ _).before ?_ ?_
    ·split
     ·rename_i h; exact h
     ·rfl
    ·split <;> (intro z; cases z)
  split
  ·dsimp only
   split
   ·exact QL _
   ·exact (jh n false _ _ _).before rfl (by intro z; cases z)
  split
  ·exact (jh n true _ _ _).before rfl (by intro z; cases z)
  split
  ·exact (jh n false _ _ _).before (by decide) (by intro z; cases z)
  split
  ·split
   ·exact (jh n true _ _ _).before rfl (by intro z; cases z)
   ·exact (jh n false _ _ _).before (by decide) (by intro z; cases z)
  split
  ·rename_i x hx
   exact (jh n false _ _ _).before (qgX hx) (by intro z; cases z)
  ·exact QL _
theorem qe1 {b:Text} {ts:Marks} (h:tokens b=.ok ts):RM.Ends ts/\∀ m∈ts,Q2 m.tok=true:=jh _ _ _ _ _ _ h
end CM
end
section
set_option autoImplicit false
namespace RM
open Vastoa
mutual
def tw:Tree->Nat
 | .node _ ls l=>1+ls.length+jF l
def jF:List Tree->Nat
 | []=>0
 | t::r=>tw t+jF r
end
mutual
def lw:Tree->Nat
 | .node _ ls l=>(ls.map List.length).sum+Qc l
def Qc:List Tree->Nat
 | []=>0
 | t::r=>lw t+Qc r
end
theorem ZT:∀ a b:List Tree,jF (a++b)=jF a+jF b
 | [],b=>by simp [jF]
 | t::r,b=>by simp only [List.cons_append,jF,ZT r b]; omega
theorem ZU:∀ a b:List Tree,Qc (a++b)=Qc a+Qc b
 | [],b=>by simp [Qc]
 | t::r,b=>by simp only [List.cons_append,Qc,ZU r b]; omega
theorem qei:∀ l:List Tree,l.length<=jF l
 | []=>Nat.le_refl _
 | .node k ls l::r=>by have:=qei r; simp only [List.length_cons,jF,tw]; omega
theorem qf5 (B:List Tree) (n:Nat):jF (B.take n)+jF (B.drop n)=jF B:=by rw [<- ZT,List.take_append_drop]
theorem qf6 (B:List Tree) (n:Nat):Qc (B.take n)+Qc (B.drop n)=Qc B:=by rw [<- ZU,List.take_append_drop]
def pw:Part->Nat
 | .EXPR=>12 | .FORM=>10 | .FUNCTION=>1 | .FIELDS=>1 | .PARAMS=>1 | .GIVEN=>1 | .MPARAMS=>1 | .BINDS=>1 | .BOUND=>16 | .OR=>10 | .MOR=>1 | .AND=>9 | .MAND=>1 | .NOT=>8 | .CMP=>8 | .MCMP=>1
 | .UPD=>7 | .MUPD=>1 | .JOIN=>6 | .MJOIN=>1 | .SUM=>5 | .MSUM=>1 | .PROD=>4 | .MPROD=>1 | .NEG=>3 | .APP=>3 | .ARGS=>1 | .ARG=>4 | .SEL=>2 | .DOTS=>1 | .MDOTS=>1 | .DFLT=>1 | .ATOM=>1
 | .PIECES=>1 | .LIST=>14 | .MLIST=>1
def sw:Sym->Nat
 | .p x=>pw x
 | _=>1
def ww:List Sym->Nat
 | []=>0
 | s::r=>sw s+ww r
theorem qc5:∀ a b:List Sym,ww (a++b)=ww a+ww b
 | [],b=>by simp [ww]
 | s::a,b=>by simp only [List.cons_append,ww,qc5 a b]; omega
def QM:List Sym->Nat
 | .t _::_=>2
 | .p .ARG::_=>1
 | .p .SEL::_=>1
 | .p .ATOM::_=>1
 | .a .take::.p .SEL::_=>1
 | _=>0
def gw:List Bg->Nat
 | []=>0
 | g::r=>1+g.labels.length+g.names.length+gw r
def glw:List Bg->Nat
 | []=>0
 | g::r=>(g.labels.map List.length).sum+glw r
def hw:Marks->Nat
 | []=>0
 | m::r=>(held m.tok).length+hw r
def z8:Bool->List Sym->Bool
 | _,[]=>true
 | _,.t _::W=>z8 true W
 | f,.a .label::W=>f&&z8 false W
 | f,.a _::W=>z8 f W
 | f,.p .BOUND::W=>f&&z8 false W
 | _,.p _::W=>z8 false W
theorem qae:∀ (W:List Sym),z8 false W=true->z8 true W=true
 | [],_=>rfl
 | .t _::W,h=>h
 | .a x::W,h=>by
  cases x with
  | label=>simp [z8] at h
  | _=>simp only [z8] at h ⊢; exact qae W h
 | .p x::W,h=>by cases x <;> simp [z8] at h ⊢ <;> exact h
theorem qh9 {f:Bool} {W:List Sym} (h:z8 false W=true):z8 f W=true:=by
 cases f with
 | false=>exact h
 | true=>exact qae W h
theorem Qg:∀ (f:Bool) (C W:List Sym),z8 f C=true->z8 false W=true->z8 f (C++W)=true
 | f,[],W,_,h=>qh9 h
 | f,.t _::C,W,h,hW=>by simp only [z8,List.cons_append] at h ⊢; exact Qg true C W h hW
 | f,.a x::C,W,h,hW=>by
  cases x with
  | label=>simp only [z8,List.cons_append,Bool.and_eq_true] at h ⊢; exact ⟨h.1,Qg false C W h.2 hW⟩
  | _=>simp only [z8,List.cons_append] at h ⊢; exact Qg f C W h hW
 | f,.p x::C,W,h,hW=>by
  cases x with
  | BOUND=>simp only [z8,List.cons_append,Bool.and_eq_true] at h ⊢; exact ⟨h.1,Qg false C W h.2 hW⟩
  | _=>simp only [z8,List.cons_append] at h ⊢; exact Qg false C W h hW
theorem qe2 (x:Part) (k:Tok):z8 (decide (x=.BOUND)) (qw x k)=true:=by
 cases x <;> simp only [qw] <;> (repeat' split) <;> rfl
structure Fits (n c:Nat) (s:MS):Prop where
 size:ww s.W+jF s.B+gw s.G+32 * s.ts.length<=32 * n+13+16 * QM s.W
 lab:∃ f,z8 f s.W=true/\Qc s.B+glw s.G+hw s.ts+(if f then (held s.pv.tok).length else 0)<=c
theorem qe3 (x:Part) (k:Tok) (W:List Sym):ww (qw x k)+16 * QM (.p x::W)<=pw x+16 * QM (qw x k++W):=by
 cases x <;> simp only [qw] <;> (repeat' split) <;> simp [ww,sw,pw,QM]
theorem qiC:∀ W:List Sym,W.length<=ww W
 | []=>Nat.le_refl _
 | s::r=>by
  have:=qiC r
  have h1:1<=sw s:=by
   cases s with
   | p x=>cases x <;> simp [sw,pw]
   | t k=>exact Nat.le_refl _
   | a x=>exact Nat.le_refl _
  simp only [List.length_cons,ww]
  omega
theorem qfx (W:List Sym):QM W<=2:=by unfold QM; split <;> omega
theorem qgY {f:Bool} {x:Part} {k:Tok} {W:List Sym} (h:z8 f (.p x::W)=true):z8 f (qw x k++W)=true:=by
 have hc:=qe2 x k
 by_cases hx:x=.BOUND
 ·subst hx
  simp only [z8,Bool.and_eq_true] at h
  obtain ⟨rfl,h⟩:=h
  exact Qg true _ W hc h
 ·rw [decide_eq_false hx] at hc
  have hW:z8 false W=true:=by
   cases x <;> first | exact absurd rfl hx | (simp only [z8] at h; exact h)
  cases f with
  | false=>exact Qg false _ W hc hW
  | true=>exact qae _ (Qg false _ W hc hW)
theorem Fits.step {n c:Nat} {s s':MS} (h:Fits n c s) (e:step s=some (.ok s')):Fits n c s':=by
 obtain ⟨ts,pv,lv,W,B,G⟩:=s
 obtain ⟨h,f,hl,hc⟩:=h
 dsimp only at h hl hc
 cases W with
 | nil=>cases e
 | cons y W=>
  cases y with
  | p x=>
   cases ts with
   | nil=>cases e
   | cons m r=>
    cases e
    have c1:=qe3 x (kd m.tok) W
    have w1:ww (.p x::W)=pw x+ww W:=rfl
    refine ⟨?_,f,qgY hl,hc⟩
    dsimp only
    rw [qc5]
    omega
  | t k=>
   cases ts with
   | nil=>cases e
   | cons m r=>
    have e:(if kd m.tok=k then some (.ok ⟨r,m,lv,W,B,G⟩) else some (.error ⟨3,m.place⟩):Option (Except Fault MS))=some (Except.ok s'):=e
    split at e
    ·cases e
     have w1:ww (.t k::W)=1+ww W:=rfl
     have o1:QM (.t k::W)=2:=rfl
     refine ⟨?_,true,hl,?_⟩
     ·dsimp only
      rw [List.length_cons] at h
      omega
     ·simp only [hw] at hc
      simp only [if_true]
      split at hc <;> omega
    ·cases e
  | a x=>
   have w1:ww (.a x::W)=1+ww W:=rfl
   have o1:QM (.a x::W)<=QM W:=by
    cases x with
    | take=>
     cases W with
     | nil=>exact Nat.le_refl _
     | cons z W=>
      cases z with
      | p q=>cases q <;> simp [QM]
      | t q=>simp [QM]
      | a q=>simp [QM]
    | _=>simp [QM]
   have e:Jn x ts pv lv W B G=some (.ok s'):=e
   cases x with
   | begin=>cases e; refine ⟨?_,f,hl,?_⟩ <;> dsimp only [gw,glw] <;> simp only [List.length_nil,List.map_nil,List.sum_nil] <;> omega
   | take=>
    have e:(if B.length=0 then none else some (.ok ⟨ts,pv,lv,W,B,⟨B.length - 1,[],[]⟩::G⟩):Option (Except Fault MS))=some (Except.ok s'):=e
    split at e
    ·cases e
    ·cases e; refine ⟨?_,f,hl,?_⟩ <;> dsimp only [gw,glw] <;> simp only [List.length_nil,List.map_nil,List.sum_nil] <;> omega
   | label=>
    cases G with
    | nil=>cases e
    | cons g G=>
     cases e
     simp only [z8,Bool.and_eq_true] at hl
     obtain ⟨rfl,hl⟩:=hl
     refine ⟨?_,false,hl,?_⟩
     ·dsimp only [gw] at h ⊢; simp only [List.length_append,List.length_cons,List.length_nil]; omega
     ·dsimp only [glw] at hc ⊢
      simp only [List.map_append,List.map_cons,List.map_nil,List.sum_append,List.sum_cons,List.sum_nil,if_true] at hc ⊢
      simp only [Bool.false_eq_true,if_false]
      omega
   | fresh=>
    cases G with
    | nil=>cases e
    | cons g G=>
     have e:(if held pv.tok∈g.names then some (.error ⟨5,pv.place⟩) else some (.ok ⟨ts,pv,lv,W,B,⟨g.first,g.labels,g.names++[held pv.tok]⟩::G⟩):Option (Except Fault MS))=some (Except.ok s'):=e
     split at e
     ·cases e
     ·cases e; refine ⟨?_,f,hl,hc⟩; dsimp only [gw] at h ⊢; simp only [List.length_append,List.length_cons,List.length_nil]; omega
   | enter=>
    cases ts with
    | nil=>cases e
    | cons m r=>
     have e:(if lv=40 then some (.error ⟨4,m.place⟩) else some (.ok ⟨m::r,pv,lv+1,W,B,G⟩):Option (Except Fault MS))=some (Except.ok s'):=e
     split at e
     ·cases e
     ·cases e; refine ⟨?_,f,hl,hc⟩; dsimp only; omega
   | leave=>
    have e:(if lv=0 then none else some (.ok ⟨ts,pv,lv - 1,W,B,G⟩):Option (Except Fault MS))=some (Except.ok s'):=e
    split at e
    ·cases e
    ·cases e; refine ⟨?_,f,hl,hc⟩; dsimp only; omega
   | fin k=>
    cases G with
    | nil=>cases e
    | cons g G=>
     have e:(if g.first<=B.length then some (.ok ⟨ts,pv,lv,W,B.take g.first++[.node k g.labels (B.drop g.first)],G⟩) else none:Option (Except Fault MS))=some (Except.ok s'):=e
     split at e
     ·cases e
      have s1:=qf5 B g.first
      have s2:=qf6 B g.first
      refine ⟨?_,f,hl,?_⟩
      ·dsimp only [gw] at h ⊢
       rw [ZT]
       simp only [jF,tw]
       omega
      ·dsimp only [glw] at hc ⊢
       rw [ZU]
       simp only [Qc,lw]
       omega
     ·cases e
theorem Fits.small {n c:Nat} {s:MS} (h:Fits n c s) (hn:n<=5000):s.W.length<=200000/\s.B.length<=200000/\gw s.G<=200000:=by
 have h0:=h.size
 have h1:=qiC s.W
 have h2:=qfx s.W
 have h3:=qei s.B
 omega
theorem Fits.tree {n c:Nat} {s:MS} (h:Fits n c s) (hn:n<=5000):jF s.B<=200000/\Qc s.B<=c:=by
 have h0:=h.size
 have h2:=qfx s.W
 obtain ⟨f,_,h3⟩:=h.lab
 constructor <;> omega
theorem qgZ:∀ G:List Bg,G.length<=gw G
 | []=>Nat.le_refl _
 | g::r=>by have:=qgZ r; simp only [List.length_cons,gw]; omega
theorem qej:∀ {G:List Bg} {g:Bg},g∈G->g.labels.length+g.names.length<=gw G
 | g'::r,g,h=>by
  rcases List.mem_cons.mp h with rfl | h
  ·simp only [gw]; omega
  ·have:=qej h; simp only [gw]; omega
theorem qf7 (ts:Marks) (pv:Mark):Fits ts.length (hw ts) ⟨ts,pv,0,[.p .EXPR,.t .fin],[],[]⟩:=by
 refine ⟨?_,false,rfl,?_⟩
 ·simp [ww,sw,pw,gw,QM,jF]; omega
 ·simp [Qc,glw]
end RM
end
section
set_option autoImplicit false
namespace CM
open Vastoa
def Holds (n:Nat) (r:Except Fault Marks):Prop:=∀ l,r=.ok l->RM.hw l<=n
theorem Holds.before {i n m:Nat} {t:Tok} {r:Except Fault Marks} (h:Holds n r) (ht:(RM.held t).length+n<=m):Holds m (Vastoa.before i t r):=by
 intro l e
 cases r with
 | error f=>cases e
 | ok l'=>
  cases e
  have:=h l' rfl
  show (RM.held t).length+RM.hw l'<=m
  omega
theorem Holds.le {n m:Nat} {r:Except Fault Marks} (h:Holds n r) (hm:n<=m):Holds m r:=fun l e=>Nat.le_trans (h l e) hm
theorem qg0:∀ (b:Text) (i:Nat) (g:Text) (j:Nat) (r:Text),gather i b=.ok (g,j,r)->g.length+r.length<=b.length:=by
 intro b
 induction hb:b.length using Nat.strongRecOn generalizing b with
 | ind n ih=>
  intro i g j r e
  subst hb
  match b,e with
  | [],e=>cases e
  | c::b',e=>
   by_cases h92:c=92
   ·subst h92
    match b',e with
    | [],e=>cases e
    | d::b2,e=>
     have e:(match unescape d with
      | some x=>(gather (i+2) b2).map fun y=>(x::y.1,y.2.1,y.2.2)
      | none=>.error ⟨2,i⟩:Except Fault (Text × Nat × Text))=.ok (g,j,r):=e
     cases hu:unescape d with
     | none=>rw [hu] at e; cases e
     | some x=>
      rw [hu] at e
      cases hg:gather (i+2) b2 with
      | error f=>rw [hg] at e; cases e
      | ok y=>
       rw [hg] at e
       cases e
       have:=ih b2.length (by simp; omega) b2 rfl (i+2) y.1 y.2.1 y.2.2 hg
       simp; omega
   ·rw [qac i c b' h92] at e
    split at e
    ·cases e; simp
    ·split at e
     ·cases e
     ·cases hg:gather (i+1) b' with
      | error f=>rw [hg] at e; cases e
      | ok y=>
       rw [hg] at e
       cases e
       have:=ih b'.length (by simp) b' rfl (i+1) y.1 y.2.1 y.2.2 hg
       simp; omega
theorem qaf (p:Nat->Bool) (b:Text):(b.takeWhile p).length<=b.length:=by
 induction b with
 | nil=>exact Nat.le_refl _
 | cons c b ih=>rw [List.takeWhile_cons]; split <;> simp <;> omega
theorem ji:∀ (n:Nat) (lit:Bool) (O:List Bool) (i:Nat) (b:Text),Holds b.length (cut n lit O i b)
 | 0,_,_,_,_=>fun l e=>by cases e
 | n+1,true,O,i,b=>by
  show Holds _ ((gather i b).bind _)
  cases hg:gather i b with
  | error f=>exact fun l e=>by cases e
  | ok g=>
   obtain ⟨g,j,r⟩:=g
   have hl:=qg0 b i g j r hg
   have hr:Holds r.length (Zk n O j r):=by
    unfold Zk
    split
    ·exact (ji n false _ _ _).before (by simp [RM.held]; omega)
    ·exact (ji n false _ _ _).before (by simp [RM.held])
   show Holds b.length (if g.isEmpty then Zk n O j r else Vastoa.before i (.piece g) (Zk n O j r))
   split
   ·exact hr.le (by omega)
   ·exact hr.before (t:=.piece g) (by show g.length+r.length<=_; omega)
 | n+1,false,O,i,[]=>fun l e=>by cases e; exact Nat.le_refl _
 | n+1,false,O,i,c::r=>by
  unfold cut
  split
  ·exact (ji n false _ _ _).le (by simp)
  split
  ·exact (ji n false _ _ _).le (by rw [List.length_drop]; omega)
  split
  ·dsimp only
   split
   ·exact fun l e=>by cases e
   ·refine (ji n false _ _ _).before ?_
    have:=qaf inner (c::r)
    rw [List.length_drop]
    split <;> (show ((c::r).takeWhile inner).length+_<=_; omega)
  split
  ·dsimp only
   split
   ·exact fun l e=>by cases e
   ·refine (ji n false _ _ _).before ?_
    have:=qaf digit (c::r)
    rw [List.length_drop]
    show ((c::r).takeWhile digit).length+_<=_
    omega
  split
  ·exact (ji n true _ _ _).before (by simp [RM.held])
  split
  ·exact (ji n false _ _ _).before (by simp [RM.held])
  split
  ·split
   ·exact (ji n true _ _ _).before (by simp [RM.held])
   ·exact (ji n false _ _ _).before (by simp [RM.held])
  split
  ·exact (ji n false _ _ _).before (by rw [List.length_drop]; show 0+_<=_; omega)
  ·exact fun l e=>by cases e
theorem qe4 {b:Text} {ts:Marks} (h:tokens b=.ok ts):RM.hw ts<=b.length:=ji _ _ _ _ _ _ h
end CM
end
section
namespace L2
open PySem PySem.Spec PyProof.Rows
section
variable (P:Program) (w:World) (K:PySem.W.Frag) (mg:Str->Option Value) (base:Heap) (CX:CXT) (k:Nat)
def FnAt (x:Str) (ps:List Str) (sp:Sp):Prop:=∃ f fd,mg x=some (.ref f)/\qB P w K mg base CX k f fd ps sp/\PySem.W.keepIn K (.ref f)=true/\Binds K fd ps []
def zS (C:Addr) (m:Str) (ps:List Str) (sp:Sp):Prop:=∃ f fd,qfN K C m f/\qB P w K mg base CX k f fd ps sp/\Binds K fd ps []
def qbd (C:Addr) (x:Str) (ps:List Str) (sp:Sp):Prop:=∃ f fd,mg x=some (.ref C)/\Mk K C f/\qB P w K mg base CX k f fd ps sp/\Binds K fd ps []
def QA (C:Addr) (x:Str) (ps:List Str) (sp:Sp):Prop:=∃ f fd,mg x=some (.ref C)/\XMk K C f/\qB P w K mg base CX0 k f fd ps sp/\Binds K fd ps []
end
section
variable {X:Cx} {CX:CXT} {k:Nat} {C:Addr} {ps:List Str} {sp:Sp} {E:XK} {x m:Str} {p pos apos:Pos} {e o:Expr} {es:List Expr} {ta:TE} {t:TA}
theorem qZ (G:FnAt X.prog X.w X.K X.mg X.base CX k x ps sp) (hr:qE k X.A) (hx:zT CX X E) (ha:PA X (e::es) t) (hg:Gl X x:=by rfl)
  (hdb:(x == ("__debug__" : Str))=false:=by decide) (he:starEach (e::es) X.env=(false,eval e X.env)::starEach es X.env:=by rfl) (hpl:(backTo pos (starEach es X.env)).any (·.1)=false:=by rfl) :
  PE X (.Call (.Name x p) (e::es) [] pos) (Qk sp [] E t):=by
 obtain ⟨f,fd,h1,h2,h3,h4⟩:=G
 exact qiO h2 hr hg h1 h3 h4 .nil hx ha hdb he hpl
theorem qY {pl:Sem Bool} (G:zS X.prog X.w X.K X.mg X.base CX k C m ps sp) (c:Cls X.K C) (hr:qE k X.A) (hx:zT CX X E) (he:PE X o ta) (ha:PA X (e::es) t)
  (hst:starEach (e::es) X.env=(false,eval e X.env)::starEach es X.env:=by rfl) (hpl:(backTo pos (starEach es X.env)).any (·.1)=false:=by rfl)
  (ht:eval (.Call (.Attribute o m apos) (e::es) [] pos) X.env=(do
   let ov <- eval o X.env
   standAt apos.atName
   let (f,first) <- holding [ov] (getMethod ov m pl)
   callWith pos f first (backTo pos (starEach (e::es) X.env)) (backToKw pos (keywordEach [] X.env))):=by rfl) :
  PE X (.Call (.Attribute o m apos) (e::es) [] pos) (qby C m sp [] E ta t):=by
 obtain ⟨f,fd,h1,h2,h3⟩:=G
 exact qiP he c h1 h2 hr h3 .nil hx ha hst hpl ht
theorem z7 {pl:Sem Bool} (G:zS X.prog X.w X.K X.mg X.base CX k C m ps sp) (c:Cls X.K C) (hr:qE k X.A) (hx:zT CX X E) (he:PE X o ta)
  (ht:eval (.Call (.Attribute o m apos) [] [] pos) X.env=(do
   let ov <- eval o X.env
   standAt apos.atName
   let (f,first) <- holding [ov] (getMethod ov m pl)
   callWith pos f first (backTo pos (starEach [] X.env)) (backToKw pos (keywordEach [] X.env))):=by rfl) :
  PE X (.Call (.Attribute o m apos) [] [] pos) (qby C m sp [] E ta j7):=by
 obtain ⟨f,fd,h1,h2,h3⟩:=G
 exact qhL he c h1 h2 hr h3 .nil hx ht
theorem QD (G:qbd X.prog X.w X.K X.mg X.base CX k C x ps sp) (hr:qE (k+1) X.A) (hx:zT CX X E) (ha:PA X (e::es) t) (hg:Gl X x:=by rfl)
  (hdb:(x == ("__debug__" : Str))=false:=by decide) (he:starEach (e::es) X.env=(false,eval e X.env)::starEach es X.env:=by rfl) (hpl:(backTo pos (starEach es X.env)).any (·.1)=false:=by rfl) :
  PE X (.Call (.Name x p) (e::es) [] pos) (qiw C sp [] E t):=by
 obtain ⟨f,fd,h1,h2,h3,h4⟩:=G
 exact qiQ h2 h3 hr hg h1 h4 .nil hx ha hdb he hpl
def GlV (mg:Str->Option Value) (x:Str) (v:V):Prop:=∃ u,mg x=some u/\RelV v u
theorem qT {v:V} (h:GlV X.mg x v) (hg:Gl X x:=by rfl) (hd:(x == ("__debug__" : Str))=false:=by decide):PE X (.Name x pos) (tC v):=by
 obtain ⟨u,h1,h2⟩:=h
 exact qiJ hg h1 h2 hd
end
section
variable {P:Program} {w:World} {K:PySem.W.Frag} {mg:Str->Option Value} {base:Heap} {N:List Str} {qual:Str} {scope:Scope} {f:Addr} {cd:Value} {A:Around} {outer:List Env} {s0:Shared} {H0:Hp} {E:XK}
variable {k:Nat} {C:Addr} {ps:List Str} {sp:Sp} {x:Str} {np cpos pos:Pos} {es:List Expr} {t:TA}
theorem jD {e:Expr} (G:QA P w K mg base k C x ps sp) (hr:qE (k+1) (qF (CXR P w) P w K mg base N qual scope f cd A outer s0 H0 E).A)
  (ha:PA (qF (CXR P w) P w K mg base N qual scope f cd A outer s0 H0 E) (e::es) t) (hg:Gl (qF (CXR P w) P w K mg base N qual scope f cd A outer s0 H0 E) x:=by rfl)
  (hdb:(x == ("__debug__" : Str))=false:=by decide)
  (he:starEach (e::es) (qF (CXR P w) P w K mg base N qual scope f cd A outer s0 H0 E).env=(false,eval e (qF (CXR P w) P w K mg base N qual scope f cd A outer s0 H0 E).env)::starEach es (qF (CXR P w) P w K mg base N qual scope f cd A outer s0 H0 E).env:=by rfl)
  (hpl:(backTo cpos (starEach es (qF (CXR P w) P w K mg base N qual scope f cd A outer s0 H0 E).env)).any (·.1)=false:=by rfl) :
  PS (qF (CXR P w) P w K mg base N qual scope f cd A outer s0 H0 E) (.Raise (some (.Call (.Name x np) (e::es) [] cpos)) none pos) (qaa C sp E t):=by
 obtain ⟨g,fd,h1,h2,h3,h4⟩:=G
 exact qhW h2 h3 hr h4 hg h1 ha hdb he hpl
theorem qbK (G:QA P w K mg base k C x ps sp) (hr:qE (k+1) (qF (CXR P w) P w K mg base N qual scope f cd A outer s0 H0 E).A)
  (hg:Gl (qF (CXR P w) P w K mg base N qual scope f cd A outer s0 H0 E) x:=by rfl) (hdb:(x == ("__debug__" : Str))=false:=by decide) :
  PS (qF (CXR P w) P w K mg base N qual scope f cd A outer s0 H0 E) (.Raise (some (.Call (.Name x np) [] [] cpos)) none pos) (qaa C sp E j7):=by
 obtain ⟨g,fd,h1,h2,h3,h4⟩:=G
 exact qgJ h2 h3 hr h4 hg h1 hdb
theorem Fun.okR {y qual:Str} {st:Stmt} {f:Addr} {fd:FuncData} {N ps:List Str} {k:Nat} {sp:Sp} (F:Fun K y qual st f fd) (S:qo N ps (qe st)) (len:∀ vs H Q E,sp vs H Q E->vs.length=ps.length)
  (hbody:∀ (cdv:Value) (A:Around) (outer:List Env) (s:Shared) (H:Hp) (vs:List V) (Q:VK) (E:XK),qE k (A.deeper (envOfC qual (qe st) s.heap.objs.size f cdv))->sp vs H Q E ->
   ∃ t,PSs (qF (CXR P w) P w K mg base N qual (qe st) f cdv A outer s H E) (qm st) t/\t { nx:=fun _ H'=>Q .non H',rt:=Q } (start N vs) H):qB P w K mg base (CXR P w) (k+1) f fd ps sp:=by
 obtain ⟨oc,od,kV,doc,pm,an,cdv,ct,osl,rfl,lk,hcd⟩:=F.ex
 exact qfO lk hcd S len fun A outer s H vs Q E hr hsp=>hbody cdv A outer s H vs Q E hr hsp
end
end L2
end
section
namespace L2
open PySem PySem.Spec PyProof.Rows
def qbe (K:PySem.W.Frag) (a:Addr) (xs:List V):Prop:=∃ (o:Obj) (its:Array Value) (n:Nat),K.lookup a=some o/\o.cls=.type "tuple" /\ o.data=.seq its n/\its.size<=sizeLine/\qv xs its.toList
theorem qbe.sq {K:PySem.W.Frag} {a:Addr} {xs:List V} (h:qbe K a xs) (H:Hp):SqT K H a xs:=.inr h
def QN (P:Program) (w:World) (K:PySem.W.Frag) (a:Addr) (kvs:List (Key × V)):Prop:=(a == sysModules)=false/\∃ vs,KV kvs vs/\∀ h,K.In h->h.DictOf (zI P w) a vs
section
variable {X:Cx} {pins:List (Addr × Obj)} {σ : St} {H:Hp} {s:Shared} {a:Addr} {y v:V} {u r:Value} {o:Option V} {A:Around} {E:Value->Shared->Prop} {kvs:List (Key × V)} {k:Key}
theorem qg1 {Q:Value->Shared->Prop} (I:Inv X pins σ H s) (d:QN X.prog X.w X.K a kvs) (l:zR kvs k=some v) (ry:RelV (kV k) u) (h:∀ w' s',Inv X pins σ H s'->RelV v w'->Q w' s') :
  wpAny (model X.prog X.w) A (getItem (.ref a) u) Q E s:=by
 obtain ⟨hd,vs,rel,dd⟩:=d
 have dd:=dd _ I.kIn
 obtain ⟨w',hw,rw'⟩:=jq.some_of (v:=v) (o:=valueAt vs k) (by rw [<- l]; exact rel.val k)
 exact wpAny_getItem_of (qaF ry) dd.mapOf hw (h w' _ (I.tok _) rw')
theorem k_in {Q:Value->Shared->Prop} (I:Inv X pins σ H s) (d:QN X.prog X.w X.K a kvs) (ry:RelV (kV k) u) (h:∀ s',Inv X pins σ H s'->Q (.bool (zR kvs k).isSome) s') :
  wpAny (model X.prog X.w) A (compareOp .In u (.ref a)) Q E s:=by
 obtain ⟨hd,vs,rel,dd⟩:=d
 have dd:=dd _ I.kIn
 refine wpAny_in_of (qaF ry) hd dd.mapOf ?_
 rw [<- (rel.val k).isSome_eq]
 exact h _ (I.tok _)
theorem qka {Q:Value->Shared->Prop} (I:Inv X pins σ H s) (d:QN X.prog X.w X.K a kvs) (ry:RelV (kV k) u) (h:∀ w' s',Inv X pins σ H s'->RelV ((zR kvs k).getD .non) w'->Q w' s') :
  wpAny (model X.prog X.w) A (call (.builtin "dict.get") [.ref a,u]) Q E s:=by
 obtain ⟨hd,vs,rel,dd⟩:=d
 have dd:=dd _ I.kIn
 refine call_meetsIn PySem.F.slot_dict_get dd.typeIs PySem.F.entry_dict_get (PySem.F.args_dict_get_2 _ _) (meets_dict_get (zI X.prog X.w) a (qaF ry) hd) ⟨_,dd.mapOf,h _ _ (I.tok _) ?_⟩
 exact (rel.val k).getD rfl
theorem qek (I:Inv X pins σ H s) (d:QN X.prog X.w X.K a kvs):s.TypeIs (.ref a) "dict" /\ (∀ b,Value.ref a=.ref b->∃ ob,s.heap.get? b=some ob/\ob.dict=none):=by
 obtain ⟨hd,vs,rel,dd⟩:=d
 have dd:=dd _ I.kIn
 refine ⟨dd.typeIs,fun b q=>?_⟩
 cases q
 obtain ⟨ob,_,_,h1,h2,_⟩:=dd
 exact ⟨ob,h1,h2.2.1⟩
end
def qkF (P:Program) (w:World) (K:PySem.W.Frag) (td ty:TE):TE:=fun σ H Q=>td σ H fun x H1=>ty σ H1 fun y H2=>∃ a kvs k v,x=.ref a/\QN P w K a kvs/\y=kV k/\zR kvs k=some v/\Q v H2
def qk3 (P:Program) (w:World) (K:PySem.W.Frag) (ty td:TE):TE:=fun σ H Q=>ty σ H fun y H1=>td σ H1 fun x H2=>∃ a kvs k,x=.ref a/\QN P w K a kvs/\y=kV k/\Q (.bl (zR kvs k).isSome) H2
def qkb (P:Program) (w:World) (K:PySem.W.Frag) (td ty:TE):TE:=fun σ H Q=>td σ H fun x H1=>∃ a kvs,x=.ref a/\QN P w K a kvs/\ty σ H1 fun y H2=>∃ k,y=kV k/\Q ((zR kvs k).getD .non) H2
section
variable {X:Cx} {o i e:Expr} {pos apos cpos:Pos} {td ty:TE}
theorem qfy (ho:PE X o td) (hi:PE X i ty) (hs:qjV i):PE X (.Subscript o i pos) (qkF X.prog X.w X.K td ty):=by
 intro pins s σ H Q I h
 refine qiZ PySem.F.slot_dict_getitem.lookup hs (thn (ho pins s σ H _ I h) fun u s1 ⟨x,H1,I1,rx,q1⟩=>thn (hi pins s1 σ H1 _ I1 q1) fun iv s2 ⟨y,H2,I2,ry,a,kvs,k,v,ex,d,ey,l,q2⟩=>?_)
 subst ex ey
 obtain rfl:u=Value.ref a:=rx
 exact ⟨(qek I2 d).1,qg1 I2 d l ry fun w' s3 I3 rw'=>⟨v,H2,I3,rw',q2⟩⟩
theorem qkc (hi:PE X i ty) (ho:PE X o td):PC X .In i o (qk3 X.prog X.w X.K ty td):=by
 intro pins s σ H Q I h
 refine thn (hi pins s σ H _ I h) fun iv s1 ⟨y,H1,I1,ry,q1⟩=>thn (ho pins s1 σ H1 _ I1 q1) fun u s2 ⟨x,H2,I2,rx,a,kvs,k,ex,d,ey,q2⟩=>?_
 subst ex ey
 obtain rfl:u=Value.ref a:=rx
 exact k_in I2 d ry fun s3 I3=>⟨.bl (zR kvs k).isSome,H2,I3,rfl,q2⟩
theorem qia (ho:PE X o td) (he:PE X e ty) (m:M1 X o "get" apos e cpos):PE X (.Call (.Attribute o "get" apos) [e] [] cpos) (qkb X.prog X.w X.K td ty):=by
 intro pins s σ H Q I h
 refine wpAny_Call_method m.base m.few m.line PySem.F.plainAttrs_dict PySem.F.slot_dict_get PySem.F.type_dict_get (thn (ho pins s σ H _ I h) fun u s1 ⟨x,H1,I1,rx,a,kvs,ex,d,q1⟩=>?_)
 subst ex
 obtain rfl:u=Value.ref a:=rx
 obtain ⟨t1,t2⟩:=qek I1 d
 refine ⟨t1,t2,?_⟩
 rw [m.trees]
 refine Calls.callWith_builtin rfl (Calls.evalArgs_plain (Calls.spliced_cons (thn (he pins s1 σ H1 _ I1 q1) fun iv s2 ⟨y,H2,I2,ry,k,ey,q2⟩=>Calls.spliced_nil ?_)))
 subst ey
 exact qka I2 d ry fun w' s3 I3 rw'=>⟨_,H2,I3,rw',q2⟩
end
theorem qkd {x:Str} {g:TG} {tt:TT} {te:TE} {vs:List Nat} {σ : St} {H1:Hp} {D:Addr} {Qd:Hp->Prop} (Pv:Nat->Hp->Prop) (h0:Pv 0 (upd H1 D (.lst [])))
  (hs:∀ i c H,x.cps[i]? = some c->Pv i H->g (.str ⟨#[c]⟩) (wipe σ vs) H fun σ2 H2=>wipe σ2 vs=wipe σ vs/\tt σ2 H2 fun b H3=>
   if b=true then te σ2 H3 fun y H4=>∃ acc,H4 D=some (.lst acc)/\acc.length<sizeLine/\Pv (i+1) (upd H4 D (.lst (acc++[y]))) else Pv (i+1) H3) (hd:∀ H,Pv x.cps.size H->Qd H) :
  ∃ W:Nat->Nat->Hp->Prop,(∃ m,W 0 m (upd H1 D (.lst [])))/\∀ i m H,W i m H ->
   ((Its x).stop i H/\Qd H) \/ ((Its x).go i H/\∃ Nx:Hp->Prop,(∀ H',Nx H'->∃ m',m'<m/\W (i+1) m' H')/\∀ v H',(Its x).yld i H v H'->g v (wipe σ vs) H' fun σ2 H2=>wipe σ2 vs=wipe σ vs/\tt σ2 H2 fun b H3=>
    if b=true then te σ2 H3 fun y H4=>∃ acc,H4 D=some (.lst acc)/\acc.length<sizeLine/\Nx (upd H4 D (.lst (acc++[y]))) else Nx H3):=by
 refine ⟨fun i m H=>m=x.cps.size - i/\i<=x.cps.size/\Pv i H,⟨x.cps.size,by simp,Nat.zero_le _,h0⟩,?_⟩
 rintro i m H ⟨rfl,hi,p⟩
 by_cases hlt:i<x.cps.size
 ·refine .inr ⟨hlt,Pv (i+1),fun H' p'=>⟨x.cps.size - (i+1),by omega,rfl,hlt,p'⟩,fun v H' y=>?_⟩
  obtain ⟨e,c,hc,rfl⟩:=y
  subst e
  exact hs i c _ hc p
 ·have e:i=x.cps.size:=by omega
  subst e
  exact .inl ⟨Nat.le_refl _,hd H p⟩
end L2
end
section
namespace L2
open PySem PySem.Spec PyProof.Rows
section
variable {X:Cx} {a b:Expr} {ta tb:TE} {es:List Expr} {t:TA} {pos tp:Pos}
theorem qH {H:Hp} {p:Addr} {o:HO} (h:H p=none):qM H (upd H p o):=fun b u e=>by rw [qa (qg e h)]; exact e
theorem qjf {op:CmpOp} {r:R2} {R:V->Hp->VK->Prop} (ho:OpR X (compareOp op) r) (ha:PE X a ta) (hb:PE X b tb) (hm:behindInMarks op b=false) (i:∀ σ x H Q,R x H Q->tb σ H fun y H2=>r x y H2 Q) :
  PE X (.Compare a [op] [b] pos) (fun σ H Q=>ta σ H fun x H1=>R x H1 Q):=by
 intro pins s σ H Q I h
 refine wpAny_Compare1 (thn (ha pins s σ H _ I h) fun v s1 ⟨x,H1,I1,r1,q1⟩=>thn (hb pins s1 σ H1 _ I1 (i _ _ _ _ q1)) fun u s2 ⟨y,H2,I2,r2,q2⟩=>?_) hm
 exact ho pins s2 σ H2 x y v u Q I2 r1 r2 q2
theorem qfz {op:CmpOp} {r:R2} {R:V->Hp->VK->Prop} (ho:OpR X (compareOp op) r) (ha:PE X a ta) (hb:PE X b tb) (hm:behindInMarks op b=false) (i:∀ σ x H Q,R x H Q->tb σ H fun y H2=>r x y H2 Q) :
  PT X (.Compare a [op] [b] pos) (qbq fun σ H Q=>ta σ H fun x H1=>R x H1 Q):=by
 intro pins s σ H Q I h
 refine wpAny_isTrue_Compare1 (thn (ha pins s σ H _ I h) fun v s1 ⟨x,H1,I1,r1,q1⟩=>thn (hb pins s1 σ H1 _ I1 (i _ _ _ _ q1)) fun u s2 ⟨y,H2,I2,r2,q2⟩=>
  thn (ho pins s2 σ H2 x y v u _ I2 r1 r2 q2) fun c s3 ⟨z,H3,I3,r3,k,e,q3⟩=>?_) hm
 subst e
 cases r3
 exact wpAny_truthy_bool ⟨H3,I3,q3⟩
def qch (neg:Bool) (xs:List V):V->Hp->VK->Prop:=fun x H Q=>jR x=true/\∀ H',qM H H'->Q (.bl (if neg then !inV x xs else inV x xs)) H'
def qf8 (neg:Bool) (xs:List V) (ta:TE):TE:=fun σ H Q=>ta σ H fun x H1=>qch neg xs x H1 Q
theorem qci {neg:Bool} {xs:List V} {K:PySem.W.Frag} (ht:∀ σ H Q,t σ H Q=Q xs H) (hx:xs.all jR=true) (hl:xs.length<=1000) (σ : St) (x:V) (H:Hp) (Q:VK) (q:qch neg xs x H Q):qjN t σ H fun y H2=>rIn K neg x y H2 Q:=by
 show t σ H _
 rw [ht]
 exact ⟨Nat.le_of_lt (QG hl),fun p hp=>⟨p,xs,rfl,.inr (SqT.of qd),q.1,hx,q.2 _ (qH hp)⟩⟩
variable {tr:Nat} {xs:List V}
theorem qg2 (ha:PE X a ta) (hes:PA X es t) (ht:∀ σ H Q,t σ H Q=Q xs H:=by intro _ _ _; rfl) (hx:xs.all jR=true:=by rfl) (hl:xs.length<=1000:=by decide)
  (hmk:behindInMarks .In (.Tuple es tr tp)=false:=by with_unfolding_all rfl):PE X (.Compare a [.In] [.Tuple es tr tp] pos) (qf8 false xs ta):=qjf (R:=qch false xs) (ta:=ta) JZ ha (qdO hes) hmk (qci ht hx hl)
theorem qke (ha:PE X a ta) (hes:PA X es t) (ht:∀ σ H Q,t σ H Q=Q xs H:=by intro _ _ _; rfl) (hx:xs.all jR=true:=by rfl) (hl:xs.length<=1000:=by decide)
  (hmk:behindInMarks .In (.Tuple es tr tp)=false:=by with_unfolding_all rfl):PT X (.Compare a [.In] [.Tuple es tr tp] pos) (qbq (qf8 false xs ta)):=qfz (R:=qch false xs) (ta:=ta) JZ ha (qdO hes) hmk (qci ht hx hl)
theorem qc6 (ha:PE X a ta) (hes:PA X es t) (ht:∀ σ H Q,t σ H Q=Q xs H:=by intro _ _ _; rfl) (hx:xs.all jR=true:=by rfl) (hl:xs.length<=1000:=by decide)
  (hmk:behindInMarks .NotIn (.Tuple es tr tp)=false:=by with_unfolding_all rfl):PT X (.Compare a [.NotIn] [.Tuple es tr tp] pos) (qbq (qf8 true xs ta)):=qfz (R:=qch true xs) (ta:=ta) qdQ ha (qdO hes) hmk (qci ht hx hl)
end
end L2
namespace L2
open PySem PySem.Spec PyProof.Rows
def nt (l:List Nat):List V:=l.map fun n:Nat=>V.int (n:Int)
theorem jV (l:List Nat):(nt l).length=l.length:=List.length_map _
def ntD (l:List Nat):PyData:=.list (l.map fun n:Nat=>.int (n:Int))
theorem qg3 {K:PySem.W.Frag} {H:Hp}:∀ l:List Nat,Ji K H (nt l) (l.map fun n:Nat=>.int (n:Int))
 | []=>.nil
 | n::r=>.cons (.int _) (qg3 r)
theorem qiD {K:PySem.W.Frag} {H:Hp} {p:Addr} {l:List Nat} (h:SqL K H p (nt l)):Dp K H (.ref p) (ntD l):=.lst h (qg3 l)
theorem qg4:∀ l:List Nat,PyData.canLayAll0 (l.map fun n:Nat=>.int (n:Int))=true
 | []=>by simp [PyData.canLayAll0]
 | n::r=>by simp [PyData.canLayAll0,PyData.canLay0,qg4 r]
theorem qel:∀ l:List Nat,PyData.depthAll (l.map fun n:Nat=>.int (n:Int))=0
 | []=>by simp [PyData.depthAll]
 | n::r=>by simp [PyData.depthAll,PyData.depth,qel r]
theorem qc7 (l:List Nat):SeqAt.shaped (ntD l)=true:=by
 unfold SeqAt.shaped ntD
 simp [PyData.canLay0,qg4,PyData.depth,qel]
theorem qbL:∀ l m:List Nat,PyData.eqvAll (l.map fun n:Nat=>.int (n:Int)) (m.map fun n:Nat=>.int (n:Int))=decide (l=m)
 | [],[]=>by simp [PyData.eqvAll]
 | [],_::_=>by simp [PyData.eqvAll]
 | _::_,[]=>by simp [PyData.eqvAll]
 | a::l,b::m=>by
  simp only [List.map_cons,PyData.eqvAll,PyData.eqv,qbL l m,List.cons.injEq]
  by_cases h:a=b
  ·subst h; simp
  ·have:¬ ((a:Int)=b):=by omega
   simp [h,this]
theorem qkf (l m:List Nat):PyData.eqv (ntD l) (ntD m)=decide (l=m):=by
 unfold ntD
 simp only [PyData.eqv]
 exact qbL l m
theorem qem {K:PySem.W.Frag} {H:Hp} {p q:Addr} {l m:List Nat} {Q:VK} (h1:SqL K H p (nt l)) (h2:SqL K H q (nt m)) (h:Q (.bl (decide (l=m))) H):qjQ K (.ref p) (.ref q) H Q :=
 ⟨_,_,qiD h1,qiD h2,qc7 l,qc7 m,by rw [qkf]; exact h⟩
end L2
end
section
set_option maxHeartbeats 400000
namespace L2
open PySem PySem.Spec PyProof.Rows
open Sem (wp)
section
variable {P:Program} {w:World} {A:Around} {R:Result->Shared->Prop} {it:Addr} {fp wr:List Addr} {n:Nat} {Pz:Nat->Value->Prop} {St:Nat->Heap->Prop} {kw:List (Str × Value)}
theorem qaK:(toString "max" ++ toString ".loop" : String) = "max.loop":=by decide
theorem qjg (W:Walks P w A.in1 it fp wr n Pz St) (bt:Nat->Nat->Bool) (cmp:CmpOf P w A.in1 .Gt Pz bt) (b:Addr) (bf:b∉fp):∀ (k j:Nat) (s:Shared) (u:Value) (c:Nat),n - (j+1)=k->j+1<=n->St (j+1) s.heap->Pz (argBest bt j) u ->
  s.heap.get? b=some { cls:=.type "list",dict:=none,data:=.seq #[u,u] c,slots:=#[] } ->
  (∀ v h' tk,Pz (argBest bt (n - 1)) v->(∀ x o,x∉wr->x≠b->s.heap.get? x=some o->h'.get? x=some o)->R (.ok (.ret v)) { s with heap:=h',toks:=tk }) ->
  codeAny (model P w) A (.builtin "max.loop" ⟨[.ref it,.none,.ref b],kw⟩) R s:=by
 have bw:b∉wr:=fun z=>bf (W.sub _ z)
 intro k
 induction k with
 | zero=>
  intro j s u c e1 e2 st hu hb fin
  have en:j+1=n:=by omega
  refine codeAny_builtin F.entry_max_loop ?_
  rw [Around.under_plainId F.plain_max_loop _]
  refine wpAny_bind (wpAny_seqItems hb rfl ?_)
  refine wpAny_bind (wpAny_tryCatch (W.done s _ _ (en ▸ st) fun h1 tk kk=>?_))
  refine wpAny_bind (wpAny_updateSeq (kk b _ bw hb) rfl (wpAny_bind (wpAny_letGo (wpAny_pure ?_))))
  exact fin u _ tk (by rw [<- en]; exact hu) fun x o xw xb e=>(Heap.get?_update_other _ _ (Ne.symm xb)).trans (kk x o xw e)
 | succ k ih=>
  intro j s u c e1 e2 st hu hb fin
  have lt:j+1<n:=by omega
  refine codeAny_builtin F.entry_max_loop ?_
  rw [Around.under_plainId F.plain_max_loop _]
  refine wpAny_bind (wpAny_seqItems hb rfl ?_)
  refine wpAny_bind (wpAny_tryCatch (W.item (j+1) s _ _ lt st fun v h1 tk hv st1 kk=>?_))
  have hb1:=kk b _ bw hb
  refine wpAny_bind (wpAny_pure ?_)
  refine wpAny_bind (wpAny_tryCatch (wpAny_holding (wpAny_bind (cmp (j+1) (argBest bt j) v u _ _ _ hv hu ?_))))
  refine wpAny_bind (wpAny_holding (wpAny_truthy_bool (wpAny_bind (wpAny_letGo (wpAny_pure ?_)))))
  cases hc:bt (j+1) (argBest bt j) with
  | true=>
   simp only [if_true]
   refine wpAny_bind (wpAny_updateSeq hb1 rfl (wpAny_bind (wpAny_letGo ?_)))
   rw [qaK]
   refine wpAny_pure ⟨plainId_quiet F.plain_max_loop _,ih (j+1) _ v _ (by omega) lt (W.frame _ _ _ st1 fun x xf o e=>?_) (by simp only [argBest,hc,if_true]; exact hv) (Heap.get?_update_self _ hb1 rfl) fun v' h2 tk2 hv' kk2=>?_⟩
   ·exact (Heap.get?_update_other _ _ (fun z:b=x=>bf (by rw [z]; exact xf))).trans e
   ·exact fin v' h2 tk2 hv' fun x o xw xb e=>kk2 x o xw xb ((Heap.get?_update_other _ _ (Ne.symm xb)).trans (kk x o xw e))
  | false=>
   simp only [Bool.false_eq_true,if_false]
   refine wpAny_bind (wpAny_letGo ?_)
   rw [qaK]
   refine wpAny_pure ⟨plainId_quiet F.plain_max_loop _,ih (j+1) _ u c (by omega) lt st1 (by simp only [argBest,hc,Bool.false_eq_true,if_false]; exact hu) hb1 fun v' h2 tk2 hv' kk2=>?_⟩
   exact fin v' h2 tk2 hv' fun x o xw xb e=>kk2 x o xw xb (kk x o xw e)
theorem qib (W:Walks P w A.in1 it fp wr n Pz St) (bt:Nat->Nat->Bool) (cmp:CmpOf P w A.in1 .Gt Pz bt) (b:Addr) (bf:b∉fp) {s:Shared} {c:Nat} {x0:Str} {d:Value} {r:List (Str × Value)} (st:St 0 s.heap)
  (hb:s.heap.get? b=some { cls:=.type "list",dict:=none,data:=.seq #[] c,slots:=#[] })
  (fin:∀ v h' tk,(0<n->Pz (argBest bt (n - 1)) v)->(n=0->v=d)->(∀ x o,x∉wr->x≠b->s.heap.get? x=some o->h'.get? x=some o)->R (.ok (.ret v)) { s with heap:=h',toks:=tk }) :
  codeAny (model P w) A (.builtin "max.loop" ⟨[.ref it,.none,.ref b],(x0,d)::r⟩) R s:=by
 have bw:b∉wr:=fun z=>bf (W.sub _ z)
 refine codeAny_builtin F.entry_max_loop ?_
 rw [Around.under_plainId F.plain_max_loop _]
 refine wpAny_bind (wpAny_seqItems hb rfl ?_)
 by_cases h0:n=0
 ·subst h0
  refine wpAny_bind (wpAny_tryCatch (W.done s _ _ st fun h1 tk kk=>?_))
  refine wpAny_bind (wpAny_rule (wpAny_pure ?_))
  exact fin d h1 tk (fun z=>absurd z (Nat.lt_irrefl _)) (fun _=>rfl) fun x o xw _ e=>kk x o xw e
 ·have hn:0<n:=Nat.pos_of_ne_zero h0
  refine wpAny_bind (wpAny_tryCatch (W.item 0 s _ _ hn st fun v h1 tk hv st1 kk=>?_))
  have hb1:=kk b _ bw hb
  refine wpAny_bind (wpAny_pure ?_)
  refine wpAny_bind (wpAny_updateSeq hb1 rfl ?_)
  rw [qaK]
  refine wpAny_pure ⟨plainId_quiet F.plain_max_loop _,qjg W bt cmp b bf _ 0 _ v _ rfl hn (W.frame _ _ _ st1 fun x xf o e=>?_) hv (Heap.get?_update_self _ hb1 rfl) fun v' h2 tk2 hv' kk2=>?_⟩
  ·exact (Heap.get?_update_other _ _ (fun z:b=x=>bf (by rw [z]; exact xf))).trans e
  ·exact fin v' h2 tk2 (fun _=>hv') (fun z=>absurd z h0) fun x o xw xb e=>kk2 x o xw xb ((Heap.get?_update_other _ _ (Ne.symm xb)).trans (kk x o xw e))
end
theorem qg5 (d:Value):Builtin.Builtins.bindParams "max" ["key","default"] 0 ⟨[],[(Str.ofString "default",d)]⟩=pure [none,some d]:=by rfl
theorem qg6 (a d:Value):argsOk "max" ⟨[a],[("default",d)]⟩:=by unfold argsOk; kernel_rfl
section
variable {P:Program} {w:World} {A:Around} {E:Value->Shared->Prop} {s:Shared} {l:Addr} {xs:Array (Int × Tok)} {d:Value}
theorem qjh {Q:Value->Shared->Prop} (hh:A.handled=none) (hl:s.heap.IsList l (intItems xs))
  (h:∀ v h' tk,(0<xs.size->(intItems xs)[argBest (fun i j=>decide (numAt xs i > numAt xs j)) (xs.size - 1)]? = some v)->(xs.size=0->v=d)->(∀ b o,s.heap.get? b=some o->h'.get? b=some o)->Q v { s with heap:=h',toks:=tk }) :
  wpAny (model P w) A (call (.builtin "max") [.ref l] [("default",d)]) Q E s:=by
 refine kmk_tree F.kind_max F.plain_max F.entry_max (qg6 _ _) ?_
 show wpAny _ A.in1 (Builtin.Builtins.bindParams "max" ["key","default"] 0 ⟨[],[("default",d)]⟩ >>= _) _ _ s
 refine wpAny_bind (wpAny_of_eq (qg5 d) ?_)
 refine wpAny_bind (wpAny_pure ?_)
 refine wpAny_bind (iter_intList hl fun s2 e st hfp hlI=>?_)
 subst e
 refine wpAny_bind (wpAny_newObj_type ?_)
 rw [qaK]
 have hW:=Walks.list (prog:=P) (w:=w) (A:=A.in1) hh s.heap.objs.size l hlI (intItems xs)
 refine wpAny_pure ⟨plainId_quiet F.plain_max_loop _,qib hW _ (CmpOf.ints_gt (numAt xs) (fun _ _=>intItems_at)) _ (fun hm=>Nat.lt_irrefl _ (hfp _ hm)) (hW.frame _ _ _ st fun b _ o e=>Heap.get?_push_of_some _ e) (Heap.get?_push_size _ rfl) fun v h' tk h1 h2 hk=>?_⟩
 refine h v h' tk (fun z=>by simpa [intItems] using h1 (by simpa [intItems] using z)) (fun z=>h2 (by simpa [intItems] using z)) (old_kept fun b o hb e=>hk b o hb (Nat.ne_of_lt (Heap.lt_size e)) (Heap.get?_push_of_some _ e))
end
end L2
end
section
set_option maxHeartbeats 400000
namespace L2
open PySem PySem.Spec PyProof.Rows
section
variable {X:Cx}
theorem qkg {A:Around} {E:Value->Shared->Prop} {s:Shared} {l:Addr} {its:List Value} {ns:List Int} {d:Int} {td:Tok} {Q:Value->Shared->Prop} (hh:A.handled=none) (hl:s.heap.IsList l its.toArray) (hi:IntsAre its ns)
  (h:∀ h' tk m t',(∀ b o,s.heap.get? b=some o->h'.get? b=some o)->(ns=[]->m=d)->(ns≠[]->m∈ns/\∀ y,y∈ns->y<=m)->Q (.int m t') { s with heap:=h',toks:=tk }):wpAny (model X.prog X.w) A (call (.builtin "max") [.ref l] [("default",.int d td)]) Q E s:=by
 obtain ⟨xs,e⟩:=hi.allInts.items
 have hn:numsOf (intItems xs).toList=ns:=by rw [<- e]; exact hi.numsOf
 rw [nums_intItems] at hn
 subst hn
 rw [e] at hl
 have em:(xs.toList.map (·.1))=[] ↔ xs.size=0:=by simp
 refine qjh hh hl fun v h' tk h1 h2 hk=>?_
 by_cases h0:xs.size=0
 ·rw [h2 h0]
  exact h h' tk d td hk (fun _=>rfl) fun z=>absurd (em.mpr h0) z
 ·obtain ⟨t,rfl⟩:=intItems_at (h1 (Nat.pos_of_ne_zero h0))
  obtain ⟨g1,g2⟩:=argBest_gt (numAt xs) (xs.size - 1)
  refine h h' tk _ t hk (fun z=>absurd (em.mp z) h0) fun _=>⟨?_,fun y hy=>?_⟩
  ·rw [numAt_eq]; exact PySem.getD_mem (by rw [List.length_map,Array.length_toList]; omega)
  ·obtain ⟨j,hj,rfl⟩:=mem_getD hy
   rw [List.length_map,Array.length_toList] at hj
   rw [<- numAt_eq]; exact g2 j (by omega)
def qkG (K:PySem.W.Frag) (d:Int) (te:TE):TE:=fun σ H Q=>te σ H fun x H1=>∃ a ns,x=.ref a/\SqL K H1 a (ns.map V.int)/\∀ m,(ns=[]->m=d)->(ns≠[]->m∈ns/\∀ y,y∈ns->y<=m)->Q (.int m) H1
theorem qji {e:Expr} {te:TE} {d:Int} {j:Nat} {p pos kp dp:Pos} (hc:X.calm=true) (hg:Gl X "max") (hm:X.mg "max" = none) (he:PE X e te) (hst:starEach [e] X.env=[(false,eval e X.env)]:=by rfl)
  (h1:backTo pos (starEach [e] X.env)=(false,eval e X.env)::backTo pos (starEach [] X.env):=by rfl) (h2:(backTo pos (starEach [e] X.env)).any (·.1)=false:=by rfl) :
  PE X (.Call (.Name "max" p) [e] [⟨some "default",.Constant (.int d) j dp,kp⟩] pos) (qkG X.K d te):=by
 intro pins s σ H Q I h
 refine wpAny_Call_Name_kw (qdH I hg hm boot_max ?_ (by decide) (by decide))
 refine callWith_kw (thn (qc he qh hst pos pins s σ H (fun vs H1=>match vs with
  | [x]=>∃ a ns,x=.ref a/\SqL X.K H1 a (ns.map V.int)/\∀ m,(ns=[]->m=d)->(ns≠[]->m∈ns/\∀ y,y∈ns->y<=m)->Q (.int m) H1
  | _=>False) I h) fun us s1 ⟨vs,H1,I1,r,q⟩=>?_) h1 h2 rfl rfl
 match vs,r,q with
 | [x],r,⟨a,ns,ex,hs,q⟩=>
  subst ex
  rw [qv.ref1 r]
  refine kws_cons (wpAny_Constant_int (kws_nil ?_))
  have I2:=I1.tok (s1.toks+1)
  obtain ⟨its,rv,hl,_⟩:=I2.list hs
  exact qkg (I2.ok.hd hc) hl.isList rv.ints fun h' tk m t' hk g1 g2=>⟨.int m,H1,I2.kept hk,⟨_,rfl⟩,q m g1 g2⟩
end
theorem qbf {α β : Type} {f g:α -> Option β}:∀ {l:List α},(∀ x,x∈l->f x=g x)->l.filterMap f=l.filterMap g
 | [],_=>rfl
 | a::l,h=>by
  rw [List.filterMap_cons,List.filterMap_cons,h a List.mem_cons_self,qbf fun x hx=>h x (List.mem_cons_of_mem _ hx)]
theorem qbM {α : Type}:∀ l:List α,List.filterMap (fun k=>l[k]?) (List.range l.length)=l
 | []=>rfl
 | a::l=>by
  rw [List.length_cons,List.range_succ_eq_map,List.filterMap_cons]
  simp only [List.getElem?_cons_zero,List.filterMap_map]
  congr 1
  refine Eq.trans (qbf fun k _=>?_) (qbM l)
  simp
theorem qic (its:List Value):slicePick its.toArray none none (some (-1))=its.reverse.toArray:=by
 unfold slicePick
 congr 1
 have e1:sliceBounds none none (some (-1)) its.toArray.size=((its.length:Int) - 1,-1,-1):=by simp [sliceBounds]
 rw [e1]
 unfold sliceRange
 simp only [show ¬ ((-1:Int) > 0) by decide,if_false]
 have e2:(if ((its.length:Int) - 1) > -1 then (((its.length:Int) - 1) - -1 - -1 - 1) / - -1 else 0).toNat=its.length:=by
  by_cases h:its.length=0
  ·simp [h]
  ·rw [if_pos (by omega),show (- -1:Int)=1 from rfl,Int.ediv_one]; omega
 rw [e2]
 refine List.ext_getElem? fun i=>?_
 rw [List.filterMap_map]
 have all:∀ k,k<its.length->((fun x:Nat=>its.toArray[x]?) ∘ fun k:Nat=>(((its.length:Int) - 1) + -1 * (k:Int)).toNat) k=its[its.length - 1 - k]?:=fun k hk=>by
  show its.toArray[(((its.length:Int) - 1) + -1 * (k:Int)).toNat]? = _
  rw [show (((its.length:Int) - 1) + -1 * (k:Int)).toNat=its.length - 1 - k by omega]
  simp
 have lst:List.filterMap ((fun x:Nat=>its.toArray[x]?) ∘ fun k:Nat=>(((its.length:Int) - 1) + -1 * (k:Int)).toNat) (List.range its.length)=its.reverse:=by
  rw [show List.filterMap ((fun x:Nat=>its.toArray[x]?) ∘ fun k:Nat=>(((its.length:Int) - 1) + -1 * (k:Int)).toNat) (List.range its.length)=List.filterMap (fun k=>its.reverse[k]?) (List.range its.reverse.length) from ?_]
  ·exact qbM its.reverse
  ·rw [List.length_reverse]
   refine qbf fun k hk=>?_
   have hk:=List.mem_range.mp hk
   rw [all k hk,List.getElem?_reverse hk]
 rw [lst]
def qk4 (K:PySem.W.Frag) (te:TE):TE:=fun σ H Q=>te σ H fun x H1=>∃ a xs,x=.ref a/\SqL K H1 a xs/\∀ p,H1 p=none->Q (.ref p) (upd H1 p (.lst xs.reverse))
theorem qen {X:Cx} {e:Expr} {te:TE} {j:Nat} {p1 p2 p3 pos:Pos} (he:PE X e te):PE X (.Subscript e (.Slice none none (some (.UnaryOp .USub (.Constant (.int 1) j p1) p3)) p2) pos) (qk4 X.K te):=by
 intro pins s σ H Q I h
 refine Subscript_ (thn (he pins s σ H _ I h) fun v s1 ⟨x,H1,I1,r1,a,xs,ex,hs,q1⟩=>?_)
 subst ex
 cases r1
 refine wpAny_Slice ?_
 rw [evalPart_none]
 refine wpAny_pure (wpAny_pure (thn (QE (qdx qbp qx) pins s1 σ H1 (fun o H'=>o=some (-1)/\H'=H1) I1 ⟨1,rfl,-1,rfl,rfl,rfl⟩) fun vs s3 ⟨o,H3,I3,pu,eo,eH⟩=>?_))
 subst eo eH
 have I4:Inv X pins σ H3 { s3 with heap:=s3.heap.push { cls:=.type "slice",data:=.fields #[.none,.none,vs] } }:=I3.kept (t':=s3.toks) fun b ob q=>Heap.get?_push_of_some _ q
 obtain ⟨its,r,ht,hz⟩:=I4.list hs
 have hlen:=r.length
 refine tail_any (ops:=[.ref a,.ref s3.heap.objs.size]) ht.isList.typeIs slot_list_getitem.lookup ?_ (by with_unfolding_all rfl)
 refine wpAny_getItem_list_slice ht.isList (Heap.IsSliceOf.new ..) .none .none pu (by simp) ?_ (by rw [List.size_toArray] <;> omega)
 rw [qic]
 refine ⟨.ref _,_,I4.laid (t':=s3.toks) (o:=.lst xs.reverse) (fun b ob q=>Heap.get?_push_of_some _ q) (Nat.le_refl _) ?_,rfl,q1 _ (I4.hok.fresh (Nat.le_refl _))⟩
 exact ⟨by rw [List.length_reverse]; exact hz,_,0,r.reverse,Heap.get?_push_size _ rfl⟩
end L2
end
section
namespace RT
open PySem PySem.Spec PyProof.Rows L2
def Zw:List Str:=[Str.ofString "and",Str.ofString "else",Str.ofString "false",Str.ofString "fn",Str.ofString "has",Str.ofString "if",Str.ofString "in",Str.ofString "let",Str.ofString "must",Str.ofString "none",Str.ofString "not",Str.ofString "or",Str.ofString "rec",Str.ofString "then",Str.ofString "true",Str.ofString "with"]
def Qu:List Str:=[Str.ofString "++",Str.ofString "//",Str.ofString "==",Str.ofString "!=",Str.ofString "<=",Str.ofString "..",Str.ofString "(",Str.ofString ")",Str.ofString "[",Str.ofString "]",Str.ofString "=",Str.ofString ";",Str.ofString ",",Str.ofString ".",Str.ofString ":",Str.ofString "?",Str.ofString "+",Str.ofString "-",Str.ofString "*",Str.ofString "<"]
def qbN:List Str:=[Str.ofString "name",Str.ofString "number",Str.ofString "true",Str.ofString "false",Str.ofString "none",Str.ofString "rec",Str.ofString "quote",Str.ofString "(",Str.ofString "[",Str.ofString "{"]
def ZV:List (Key × V):=[(Sum.inl 34,.int 34),(Sum.inl 92,.int 92),(Sum.inl 110,.int 10),(Sum.inl 116,.int 9),(Sum.inl 36,.int 36)]
def Qm:List (Str × List Str):=[(Str.ofString "EXPR",[Str.ofString "@enter FORM @leave"]),
 (Str.ofString "FORM",[Str.ofString "fn FUNCTION",Str.ofString "let @begin name BOUND BINDS in EXPR @let",Str.ofString "if @begin EXPR then EXPR else EXPR @if",Str.ofString "must @begin EXPR ; EXPR @must",Str.ofString "OR"]),
 (Str.ofString "FUNCTION",[Str.ofString "name @begin @label : EXPR @fn",Str.ofString "{ @begin FIELDS"]),
 (Str.ofString "FIELDS",[Str.ofString "} : EXPR @fields",Str.ofString "PARAMS"]),
 (Str.ofString "PARAMS",[Str.ofString ".. } : EXPR @fields..",Str.ofString "name @fresh @begin @label GIVEN @param MORE-PARAMS"]),
 (Str.ofString "GIVEN",[Str.ofString "? EXPR",Str.ofString ""]),
 (Str.ofString "MORE-PARAMS",[Str.ofString ", PARAMS",Str.ofString "} : EXPR @fields"]),
 (Str.ofString "BINDS",[Str.ofString "name BOUND BINDS",Str.ofString ""]),
 (Str.ofString "BOUND",[Str.ofString "@fresh @label = EXPR ;"]),
 (Str.ofString "OR",[Str.ofString "AND MORE-OR"]),
 (Str.ofString "MORE-OR",[Str.ofString "or @take AND @or MORE-OR",Str.ofString ""]),
 (Str.ofString "AND",[Str.ofString "NOT MORE-AND"]),
 (Str.ofString "MORE-AND",[Str.ofString "and @take NOT @and MORE-AND",Str.ofString ""]),
 (Str.ofString "NOT",[Str.ofString "not @begin NOT @not",Str.ofString "CMP"]),
 (Str.ofString "CMP",[Str.ofString "UPD MORE-CMP"]),
 (Str.ofString "MORE-CMP",[Str.ofString "== @take UPD @==",Str.ofString "!= @take UPD @!=",Str.ofString "< @take UPD @<",Str.ofString "<= @take UPD @<=",Str.ofString "has @take name @label @has",Str.ofString ""]),
 (Str.ofString "UPD",[Str.ofString "JOIN MORE-UPD"]),
 (Str.ofString "MORE-UPD",[Str.ofString "// @take UPD @//",Str.ofString ""]),
 (Str.ofString "JOIN",[Str.ofString "SUM MORE-JOIN"]),
 (Str.ofString "MORE-JOIN",[Str.ofString "++ @take JOIN @++",Str.ofString ""]),
 (Str.ofString "SUM",[Str.ofString "PROD MORE-SUM"]),
 (Str.ofString "MORE-SUM",[Str.ofString "+ @take PROD @+ MORE-SUM",Str.ofString "- @take PROD @- MORE-SUM",Str.ofString ""]),
 (Str.ofString "PROD",[Str.ofString "NEG MORE-PROD"]),
 (Str.ofString "MORE-PROD",[Str.ofString "* @take NEG @* MORE-PROD",Str.ofString ""]),
 (Str.ofString "NEG",[Str.ofString "- @begin NEG @neg",Str.ofString "APP"]),
 (Str.ofString "APP",[Str.ofString "SEL ARGUMENTS"]),
 (Str.ofString "ARGUMENTS",[Str.ofString "ARGUMENT ARGUMENTS",Str.ofString ""]),
 (Str.ofString "ARGUMENT",[Str.ofString "@take SEL @app"]),
 (Str.ofString "SEL",[Str.ofString "ATOM DOTS"]),
 (Str.ofString "DOTS",[Str.ofString ". @take name @label MORE-DOTS DEFAULT @get",Str.ofString ""]),
 (Str.ofString "MORE-DOTS",[Str.ofString ". name @label MORE-DOTS",Str.ofString ""]),
 (Str.ofString "DEFAULT",[Str.ofString "? ATOM",Str.ofString ""]),
 (Str.ofString "ATOM",[Str.ofString "name @begin @label @name",Str.ofString "number @begin @label @num",Str.ofString "true @begin @yes",Str.ofString "false @begin @no",Str.ofString "none @begin @none",Str.ofString "quote @begin PIECES unquote @text",Str.ofString "( EXPR )",Str.ofString "[ @begin LIST @list",Str.ofString "{ @begin BINDS } @record",Str.ofString "rec { @begin BINDS } @recur"]),
 (Str.ofString "PIECES",[Str.ofString "piece @begin @label @piece PIECES",Str.ofString "hole EXPR unhole PIECES",Str.ofString ""]),
 (Str.ofString "LIST",[Str.ofString "]",Str.ofString "EXPR MORE-LIST ]"]),
 (Str.ofString "MORE-LIST",[Str.ofString ", EXPR MORE-LIST",Str.ofString ""])]
def tokF (x0 x1 x2:V):List (Str × V):=[("kind",x0),("place",x1),("held",x2)]
theorem qc8 (x0 x1 x2:V):(tokF x0 x1 x2).lookup ("kind" : Str)=some x0:=rfl
theorem Jt (x0 x1 x2:V):(tokF x0 x1 x2).lookup ("place" : Str)=some x1:=rfl
theorem qc9 (x0 x1 x2:V):(tokF x0 x1 x2).lookup ("held" : Str)=some x2:=rfl
def jj (x0 x1 x2 x3 x4 x5:V):List (Str × V):=[("text",x0),("place",x1),("tokens",x2),("opened",x3),("in_literal",x4),("ended",x5)]
theorem Zb (x0 x1 x2 x3 x4 x5:V):(jj x0 x1 x2 x3 x4 x5).lookup ("text" : Str)=some x0:=rfl
theorem qy (x0 x1 x2 x3 x4 x5:V):(jj x0 x1 x2 x3 x4 x5).lookup ("place" : Str)=some x1:=rfl
theorem ZW (x0 x1 x2 x3 x4 x5:V):(jj x0 x1 x2 x3 x4 x5).lookup ("tokens" : Str)=some x2:=rfl
theorem Q3 (x0 x1 x2 x3 x4 x5:V):(jj x0 x1 x2 x3 x4 x5).lookup ("opened" : Str)=some x3:=rfl
theorem qbO (x0 x1 x2 x3 x4 x5:V):(jj x0 x1 x2 x3 x4 x5).lookup ("in_literal" : Str)=some x4:=rfl
theorem qbP (x0 x1 x2 x3 x4 x5:V):(jj x0 x1 x2 x3 x4 x5).lookup ("ended" : Str)=some x5:=rfl
theorem zj (x0 x1 x2 x3 x4 x5:V):(jj x0 x1 x2 x3 x4 x5).lookup ("byte_at" : Str)=none:=rfl
theorem qO (x0 x1 x2 x3 x4 x5:V):(jj x0 x1 x2 x3 x4 x5).lookup ("add_token" : Str)=none:=rfl
theorem JJ (x0 x1 x2 x3 x4 x5:V):(jj x0 x1 x2 x3 x4 x5).lookup ("cut_outside" : Str)=none:=rfl
theorem Ju (x0 x1 x2 x3 x4 x5:V):(jj x0 x1 x2 x3 x4 x5).lookup ("pass_comment" : Str)=none:=rfl
theorem qbg (x0 x1 x2 x3 x4 x5:V):(jj x0 x1 x2 x3 x4 x5).lookup ("cut_name" : Str)=none:=rfl
theorem qag (x0 x1 x2 x3 x4 x5:V):(jj x0 x1 x2 x3 x4 x5).lookup ("cut_number" : Str)=none:=rfl
theorem ZD (x0 x1 x2 x3 x4 x5:V):(jj x0 x1 x2 x3 x4 x5).lookup ("cut_right_brace" : Str)=none:=rfl
theorem qbh (x0 x1 x2 x3 x4 x5:V):(jj x0 x1 x2 x3 x4 x5).lookup ("cut_sign" : Str)=none:=rfl
theorem JK (x0 x1 x2 x3 x4 x5:V):(jj x0 x1 x2 x3 x4 x5).lookup ("cut_literal" : Str)=none:=rfl
theorem qaQ (x0 x1 x2 x3 x4 x5:V):(jj x0 x1 x2 x3 x4 x5).lookup ("cut_piece" : Str)=none:=rfl
theorem Z1 (x0 x1 x2 x3 x4 x5:V):(jj x0 x1 x2 x3 x4 x5).lookup ("is_piece_over" : Str)=none:=rfl
theorem JL (x0 x1 x2 x3 x4 x5:V):(jj x0 x1 x2 x3 x4 x5).lookup ("gather_byte" : Str)=none:=rfl
def qah (x0 x1 x2 x3:V):List (Str × V):=[("kind",x0),("labels",x1),("kids",x2),("depth",x3)]
theorem qg7 (x0 x1 x2 x3:V):(qah x0 x1 x2 x3).lookup ("kind" : Str)=some x0:=rfl
theorem qe5 (x0 x1 x2 x3:V):(qah x0 x1 x2 x3).lookup ("labels" : Str)=some x1:=rfl
theorem qda (x0 x1 x2 x3:V):(qah x0 x1 x2 x3).lookup ("kids" : Str)=some x2:=rfl
theorem qbQ (x0 x1 x2 x3:V):(qah x0 x1 x2 x3).lookup ("depth" : Str)=some x3:=rfl
def qcj (x0 x1 x2:V):List (Str × V):=[("first",x0),("labels",x1),("names",x2)]
theorem qf9 (x0 x1 x2:V):(qcj x0 x1 x2).lookup ("first" : Str)=some x0:=rfl
theorem qaW (x0 x1 x2:V):(qcj x0 x1 x2).lookup ("labels" : Str)=some x1:=rfl
theorem qga (x0 x1 x2:V):(qcj x0 x1 x2).lookup ("names" : Str)=some x2:=rfl
def Qs (x0 x1 x2 x3 x4 x5:V):List (Str × V):=[("tokens",x0),("at",x1),("level",x2),("waiting",x3),("built",x4),("begun",x5)]
theorem Qv (x0 x1 x2 x3 x4 x5:V):(Qs x0 x1 x2 x3 x4 x5).lookup ("tokens" : Str)=some x0:=rfl
theorem Zl (x0 x1 x2 x3 x4 x5:V):(Qs x0 x1 x2 x3 x4 x5).lookup ("at" : Str)=some x1:=rfl
theorem Jv (x0 x1 x2 x3 x4 x5:V):(Qs x0 x1 x2 x3 x4 x5).lookup ("level" : Str)=some x2:=rfl
theorem Zx (x0 x1 x2 x3 x4 x5:V):(Qs x0 x1 x2 x3 x4 x5).lookup ("waiting" : Str)=some x3:=rfl
theorem Qn (x0 x1 x2 x3 x4 x5:V):(Qs x0 x1 x2 x3 x4 x5).lookup ("built" : Str)=some x4:=rfl
theorem QO (x0 x1 x2 x3 x4 x5:V):(Qs x0 x1 x2 x3 x4 x5).lookup ("begun" : Str)=some x5:=rfl
theorem qai (x0 x1 x2 x3 x4 x5:V):(Qs x0 x1 x2 x3 x4 x5).lookup ("step" : Str)=none:=rfl
theorem qaj (x0 x1 x2 x3 x4 x5:V):(Qs x0 x1 x2 x3 x4 x5).lookup ("read_token" : Str)=none:=rfl
theorem qe6 (x0 x1 x2 x3 x4 x5:V):(Qs x0 x1 x2 x3 x4 x5).lookup ("act" : Str)=none:=rfl
theorem JM (x0 x1 x2 x3 x4 x5:V):(Qs x0 x1 x2 x3 x4 x5).lookup ("enter_level" : Str)=none:=rfl
theorem qbi (x0 x1 x2 x3 x4 x5:V):(Qs x0 x1 x2 x3 x4 x5).lookup ("end_node" : Str)=none:=rfl
structure Ad where
 Token:Addr
 Cutter:Addr
 Node:Addr
 Begun:Addr
 Reader:Addr
 Refusal:Addr
 TextTooLong:Addr
 WrongToken:Addr
 WrongSyntax:Addr
 LevelTooDeep:Addr
 NameTwice:Addr
 TreeTooDeep:Addr
 WORDS:Addr
 SIGNS:Addr
 ATOM_BEGINNINGS:Addr
 ESCAPES:Addr
 GRAMMAR:Addr
 gram:Str->Addr
structure Tx (P:Program) (w:World) (K:PySem.W.Frag) (mg:Str->Option Value) (a:Ad):Prop where
 c_Token:Cls K a.Token
 n_Token_kind:qp K a.Token "kind"
 n_Token_place:qp K a.Token "place"
 n_Token_held:qp K a.Token "held"
 c_Cutter:Cls K a.Cutter
 n_Cutter_text:qp K a.Cutter "text"
 n_Cutter_place:qp K a.Cutter "place"
 n_Cutter_tokens:qp K a.Cutter "tokens"
 n_Cutter_opened:qp K a.Cutter "opened"
 n_Cutter_in_literal:qp K a.Cutter "in_literal"
 n_Cutter_ended:qp K a.Cutter "ended"
 c_Node:Cls K a.Node
 n_Node_kind:qp K a.Node "kind"
 n_Node_labels:qp K a.Node "labels"
 n_Node_kids:qp K a.Node "kids"
 n_Node_depth:qp K a.Node "depth"
 c_Begun:Cls K a.Begun
 n_Begun_first:qp K a.Begun "first"
 n_Begun_labels:qp K a.Begun "labels"
 n_Begun_names:qp K a.Begun "names"
 c_Reader:Cls K a.Reader
 n_Reader_tokens:qp K a.Reader "tokens"
 n_Reader_at:qp K a.Reader "at"
 n_Reader_level:qp K a.Reader "level"
 n_Reader_waiting:qp K a.Reader "waiting"
 n_Reader_built:qp K a.Reader "built"
 n_Reader_begun:qp K a.Reader "begun"
 x_Refusal:zV K a.Refusal
 n_Refusal_number:qp K a.Refusal "number"
 n_Refusal_place:qp K a.Refusal "place"
 u_Refusal:subB K a.Refusal a.Refusal
 x_TextTooLong:zV K a.TextTooLong
 n_TextTooLong_number:qp K a.TextTooLong "number"
 n_TextTooLong_place:qp K a.TextTooLong "place"
 u_TextTooLong:subB K a.TextTooLong a.Refusal
 x_WrongToken:zV K a.WrongToken
 n_WrongToken_number:qp K a.WrongToken "number"
 n_WrongToken_place:qp K a.WrongToken "place"
 u_WrongToken:subB K a.WrongToken a.Refusal
 x_WrongSyntax:zV K a.WrongSyntax
 n_WrongSyntax_number:qp K a.WrongSyntax "number"
 n_WrongSyntax_place:qp K a.WrongSyntax "place"
 u_WrongSyntax:subB K a.WrongSyntax a.Refusal
 x_LevelTooDeep:zV K a.LevelTooDeep
 n_LevelTooDeep_number:qp K a.LevelTooDeep "number"
 n_LevelTooDeep_place:qp K a.LevelTooDeep "place"
 u_LevelTooDeep:subB K a.LevelTooDeep a.Refusal
 x_NameTwice:zV K a.NameTwice
 n_NameTwice_number:qp K a.NameTwice "number"
 n_NameTwice_place:qp K a.NameTwice "place"
 u_NameTwice:subB K a.NameTwice a.Refusal
 x_TreeTooDeep:zV K a.TreeTooDeep
 n_TreeTooDeep_number:qp K a.TreeTooDeep "number"
 n_TreeTooDeep_place:qp K a.TreeTooDeep "place"
 u_TreeTooDeep:subB K a.TreeTooDeep a.Refusal
 g_TAB:GlV mg "TAB" (.int (9))
 g_LINE_FEED:GlV mg "LINE_FEED" (.int (10))
 g_RETURN:GlV mg "RETURN" (.int (13))
 g_BLANK:GlV mg "BLANK" (.int (32))
 g_QUOTE:GlV mg "QUOTE" (.int (34))
 g_HASH:GlV mg "HASH" (.int (35))
 g_DOLLAR:GlV mg "DOLLAR" (.int (36))
 g_MINUS:GlV mg "MINUS" (.int (45))
 g_ZERO:GlV mg "ZERO" (.int (48))
 g_BACKSLASH:GlV mg "BACKSLASH" (.int (92))
 g_UNDERSCORE:GlV mg "UNDERSCORE" (.int (95))
 g_LEFT_BRACE:GlV mg "LEFT_BRACE" (.int (123))
 g_RIGHT_BRACE:GlV mg "RIGHT_BRACE" (.int (125))
 g_MOST_NAME_BYTES:GlV mg "MOST_NAME_BYTES" (.int (32))
 g_MOST_DIGITS:GlV mg "MOST_DIGITS" (.int (30))
 g_NOTHING:GlV mg "NOTHING" (.int (-1))
 g_MOST_TEXT_BYTES:GlV mg "MOST_TEXT_BYTES" (.int (2048))
 g_MOST_LEVELS:GlV mg "MOST_LEVELS" (.int (40))
 g_MOST_DEPTH:GlV mg "MOST_DEPTH" (.int (40))
 g_WORDS:GlV mg "WORDS" (.ref a.WORDS)
 t_WORDS:qbe K a.WORDS (Zw.map V.str)
 g_SIGNS:GlV mg "SIGNS" (.ref a.SIGNS)
 t_SIGNS:qbe K a.SIGNS (Qu.map V.str)
 g_ATOM_BEGINNINGS:GlV mg "ATOM_BEGINNINGS" (.ref a.ATOM_BEGINNINGS)
 t_ATOM_BEGINNINGS:qbe K a.ATOM_BEGINNINGS (qbN.map V.str)
 g_ESCAPES:GlV mg "ESCAPES" (.ref a.ESCAPES)
 d_ESCAPES:QN P w K a.ESCAPES ZV
 g_GRAMMAR:GlV mg "GRAMMAR" (.ref a.GRAMMAR)
 d_GRAMMAR:QN P w K a.GRAMMAR (Qm.map fun r=>(Sum.inr r.1,V.ref (a.gram r.1)))
 t_gram:∀ r∈Qm,qbe K (a.gram r.1) (r.2.map V.str)
 b_len:mg "len" = none
 b_ord:mg "ord" = none
 b_max:mg "max" = none
 b_tuple:mg "tuple" = none
end RT
end
section
namespace L2
open PySem PySem.Spec PyProof.Rows
def ClsAt (P:Program) (w:World) (K:PySem.W.Frag) (mg:Str->Option Value) (base:Heap) (k:Nat) (C:Addr) (x m:Str) (ps:List Str) (sp:Sp):Prop :=
 ∃ f fd,mg x=some (.ref C)/\qdA K C m f/\qB P w K mg base CX0 k f fd ps sp/\Binds K fd ps []
theorem Zm {X:Cx} {k:Nat} {C:Addr} {ps:List Str} {sp:Sp} {x m:Str} {p pos apos:Pos} {e:Expr} {es:List Expr} {t:TA} {pl:Sem Bool} (G:ClsAt X.prog X.w X.K X.mg X.base k C x m ps sp) (hr:qE k X.A) (ha:PA X (e::es) t) (hg:Gl X x:=by rfl)
  (hdb:(x == ("__debug__" : Str))=false:=by decide)
  (hst:starEach (e::es) X.env=(false,eval e X.env)::starEach es X.env:=by rfl) (hpl:(backTo pos (starEach es X.env)).any (·.1)=false:=by rfl)
  (ht:eval (.Call (.Attribute (.Name x p) m apos) (e::es) [] pos) X.env=(do
   let ov <- eval (.Name x p) X.env
   standAt apos.atName
   let (f,first) <- holding [ov] (getMethod ov m pl)
   callWith pos f first (backTo pos (starEach (e::es) X.env)) (backToKw pos (keywordEach [] X.env))):=by rfl) :
  PE X (.Call (.Attribute (.Name x p) m apos) (e::es) [] pos) (Qk sp [] E0 t):=by
 obtain ⟨f,fd,h1,h2,h3,h4⟩:=G
 exact qfT hg h1 h2 h3 hr h4 .nil qI ha hdb hst hpl ht
end L2
namespace RT
open PySem PySem.Spec PyProof.Rows L2
def top (i:Nat):Stmt:=PySem.Challenge.pw_recipetexts_s04_same.main.body.getD i (.Pass ⟨0,0,0,0⟩)
abbrev z9:Stmt:=inClass (top 1) 0
abbrev zL:Stmt:=inClass (top 2) 0
abbrev zY:Stmt:=inClass (top 3) 0
abbrev zM:Stmt:=inClass (top 4) 0
abbrev zC:Stmt:=inClass (top 5) 0
abbrev ja:Stmt:=inClass (top 6) 0
abbrev zN:Stmt:=inClass (top 7) 0
abbrev zZ:Stmt:=inClass (top 8) 0
abbrev jY:Stmt:=inClass (top 12) 0
abbrev jv:Stmt:=top 13
abbrev Qo:Stmt:=top 14
abbrev zD:Stmt:=top 15
abbrev jL:Stmt:=top 16
abbrev Qp:Stmt:=top 31
abbrev jM:Stmt:=inClass (top 39) 0
abbrev jZ:Stmt:=top 40
abbrev Qq:Stmt:=top 41
abbrev jN:Stmt:=top 42
abbrev jo:Stmt:=top 43
abbrev jw:Stmt:=inClass (top 44) 0
abbrev jb:Stmt:=inClass (top 44) 1
abbrev zO:Stmt:=inClass (top 44) 2
abbrev zt:Stmt:=inClass (top 44) 3
abbrev zl:Stmt:=inClass (top 44) 4
abbrev z0:Stmt:=inClass (top 44) 5
abbrev zE:Stmt:=inClass (top 44) 6
abbrev zb:Stmt:=inClass (top 44) 7
abbrev z5:Stmt:=inClass (top 44) 8
abbrev zu:Stmt:=inClass (top 44) 9
abbrev zP:Stmt:=inClass (top 44) 10
abbrev zf:Stmt:=inClass (top 44) 11
abbrev zw:Stmt:=inClass (top 44) 12
abbrev qaL:Stmt:=top 45
abbrev jO:Stmt:=inClass (top 51) 0
abbrev Z2:Stmt:=top 52
abbrev QW:Stmt:=top 53
abbrev j4:Stmt:=top 54
abbrev jx:Stmt:=inClass (top 55) 0
abbrev jy:Stmt:=inClass (top 55) 1
abbrev zF:Stmt:=inClass (top 55) 2
abbrev jP:Stmt:=inClass (top 55) 3
abbrev zx:Stmt:=inClass (top 55) 4
abbrev z6:Stmt:=inClass (top 55) 5
abbrev Z3:Stmt:=top 56
abbrev jz:Stmt:=top 58
abbrev s_same:Stmt:=top 59
abbrev rfF (n p:Int):List (Str × V):=[("number",.int n),("place",.int p)]
def QP (K:PySem.W.Frag):Sp:=fun vs H Q _=>∃ (e C:Addr) (xs:Array Value) (n p:Int),vs=[.ref e,.int n,.int p]/\H e=some (XOb e C xs none)/\zV K C/\qp K C "number" /\ qp K C "place" /\
 ∀ dx H',H dx=none->dx≠e->H' e=some (XOb e C xs (some dx))->H' dx=some (XDi dx (rfF n p))->(∀ b o,H b=some o->b≠e->H' b=some o)->Q .non H'
def spX (C:Addr) (n:Int) (one:Bool):Sp:=fun vs H Q _=>∃ (e:Addr) (xs:Array Value) (p:Int),(vs=if one then [.ref e,.int p] else [.ref e])/\(one=false->p=0)/\H e=some (XOb e C xs none) /\
 ∀ dx H',H dx=none->dx≠e->H' e=some (XOb e C xs (some dx))->H' dx=some (XDi dx (rfF n p))->(∀ b o,H b=some o->b≠e->H' b=some o)->Q .non H'
section
variable {P:Program} {w:World} {K:PySem.W.Frag} {mg:Str->Option Value} {base:Heap} {f:Addr} {fd:FuncData} {a:Ad}
theorem ZG:qo ["self","number","place"] ["self","number","place"] (qe z9):=⟨rfl,rfl,rfl,by decide +kernel,rfl,by decide +kernel,by decide +kernel⟩
theorem qbR (F:Fun K "__init__" "Refusal.__init__" z9 f fd):qB P w K mg base CX0 1 f fd ["self","number","place"] (QP K):=by
 refine F.ok ZG (fun vs H Q E h=>?_) (fun cdv A outer s H vs Q E hr h=>?_)
 ·obtain ⟨e,C,xs,n,p,rfl,_⟩:=h; rfl
 ·obtain ⟨e,C,xs,n,p,rfl,he,hC,n1,n2,k⟩:=h
  refine ⟨_,qi (qd0 (pv 0) (pv 1) rfl) (qf (qd1 (pv 0) (pv 2) rfl)),?_⟩
  refine ⟨_,rfl,_,rfl,e,C,xs,rfl,he,hC,n1,fun dx hd hde=>?_⟩
  refine ⟨_,rfl,_,rfl,e,C,xs,dx,_,rfl,qd,(qa hde).trans qd,(by show 1<1000; decide),hC,n2,?_⟩
  refine k dx _ hd hde ?_ ?_ fun b o hb hbe=>?_
  ·rw [qa (Ne.symm hde),qd]
  ·rw [qd]; rfl
  ·rw [qa (qg hb hd),qa hbe,qa (qg hb hd)]; exact hb
theorem JN:qo ["self"] ["self"] (qe zL):=⟨rfl,rfl,rfl,by decide +kernel,rfl,by decide +kernel,by decide +kernel⟩
theorem JO (F:Fun K "__init__" "TextTooLong.__init__" zL f fd) (T:Tx P w K mg a) (G:ClsAt P w K mg base 1 a.Refusal "Refusal" "__init__" ["self","number","place"] (QP K)):qB P w K mg base CX0 2 f fd ["self"] (spX a.TextTooLong 1 false):=by
 refine F.ok JN (fun vs H Q E h=>?_) (fun cdv A outer s H vs Q E hr h=>?_)
 ·obtain ⟨e,xs,p,rfl,_⟩:=h; rfl
 ·obtain ⟨e,xs,p,rfl,hp,he,k⟩:=h
  refine ⟨_,qf (qt (Zm G hr (qc (pv 0) (qc qx (qc qx qh))))),?_⟩
  have hp0:=hp rfl
  subst hp0
  exact ⟨_,rfl,e,a.TextTooLong,xs,1,0,rfl,he,T.x_TextTooLong,T.n_TextTooLong_number,T.n_TextTooLong_place,k⟩
theorem qak:qo ["self","place"] ["self","place"] (qe zY):=⟨rfl,rfl,rfl,by decide +kernel,rfl,by decide +kernel,by decide +kernel⟩
theorem qal (F:Fun K "__init__" "WrongToken.__init__" zY f fd) (T:Tx P w K mg a) (G:ClsAt P w K mg base 1 a.Refusal "Refusal" "__init__" ["self","number","place"] (QP K)):qB P w K mg base CX0 2 f fd ["self","place"] (spX a.WrongToken 2 true):=by
 refine F.ok qak (fun vs H Q E h=>?_) (fun cdv A outer s H vs Q E hr h=>?_)
 ·obtain ⟨e,xs,p,rfl,_⟩:=h; rfl
 ·obtain ⟨e,xs,p,rfl,hp,he,k⟩:=h
  refine ⟨_,qf (qt (Zm G hr (qc (pv 0) (qc qx (qc (pv 1) qh))))),?_⟩
  exact ⟨_,rfl,_,rfl,e,a.WrongToken,xs,2,p,rfl,he,T.x_WrongToken,T.n_WrongToken_number,T.n_WrongToken_place,k⟩
theorem JP:qo ["self","place"] ["self","place"] (qe zM):=⟨rfl,rfl,rfl,by decide +kernel,rfl,by decide +kernel,by decide +kernel⟩
theorem JQ (F:Fun K "__init__" "WrongSyntax.__init__" zM f fd) (T:Tx P w K mg a) (G:ClsAt P w K mg base 1 a.Refusal "Refusal" "__init__" ["self","number","place"] (QP K)):qB P w K mg base CX0 2 f fd ["self","place"] (spX a.WrongSyntax 3 true):=by
 refine F.ok JP (fun vs H Q E h=>?_) (fun cdv A outer s H vs Q E hr h=>?_)
 ·obtain ⟨e,xs,p,rfl,_⟩:=h; rfl
 ·obtain ⟨e,xs,p,rfl,hp,he,k⟩:=h
  refine ⟨_,qf (qt (Zm G hr (qc (pv 0) (qc qx (qc (pv 1) qh))))),?_⟩
  exact ⟨_,rfl,_,rfl,e,a.WrongSyntax,xs,3,p,rfl,he,T.x_WrongSyntax,T.n_WrongSyntax_number,T.n_WrongSyntax_place,k⟩
theorem Jw:qo ["self","place"] ["self","place"] (qe zC):=⟨rfl,rfl,rfl,by decide +kernel,rfl,by decide +kernel,by decide +kernel⟩
theorem Jx (F:Fun K "__init__" "LevelTooDeep.__init__" zC f fd) (T:Tx P w K mg a) (G:ClsAt P w K mg base 1 a.Refusal "Refusal" "__init__" ["self","number","place"] (QP K)):qB P w K mg base CX0 2 f fd ["self","place"] (spX a.LevelTooDeep 4 true):=by
 refine F.ok Jw (fun vs H Q E h=>?_) (fun cdv A outer s H vs Q E hr h=>?_)
 ·obtain ⟨e,xs,p,rfl,_⟩:=h; rfl
 ·obtain ⟨e,xs,p,rfl,hp,he,k⟩:=h
  refine ⟨_,qf (qt (Zm G hr (qc (pv 0) (qc qx (qc (pv 1) qh))))),?_⟩
  exact ⟨_,rfl,_,rfl,e,a.LevelTooDeep,xs,4,p,rfl,he,T.x_LevelTooDeep,T.n_LevelTooDeep_number,T.n_LevelTooDeep_place,k⟩
theorem qaR:qo ["self","place"] ["self","place"] (qe ja):=⟨rfl,rfl,rfl,by decide +kernel,rfl,by decide +kernel,by decide +kernel⟩
theorem qaS (F:Fun K "__init__" "NameTwice.__init__" ja f fd) (T:Tx P w K mg a) (G:ClsAt P w K mg base 1 a.Refusal "Refusal" "__init__" ["self","number","place"] (QP K)):qB P w K mg base CX0 2 f fd ["self","place"] (spX a.NameTwice 5 true):=by
 refine F.ok qaR (fun vs H Q E h=>?_) (fun cdv A outer s H vs Q E hr h=>?_)
 ·obtain ⟨e,xs,p,rfl,_⟩:=h; rfl
 ·obtain ⟨e,xs,p,rfl,hp,he,k⟩:=h
  refine ⟨_,qf (qt (Zm G hr (qc (pv 0) (qc qx (qc (pv 1) qh))))),?_⟩
  exact ⟨_,rfl,_,rfl,e,a.NameTwice,xs,5,p,rfl,he,T.x_NameTwice,T.n_NameTwice_number,T.n_NameTwice_place,k⟩
theorem JR:qo ["self"] ["self"] (qe zN):=⟨rfl,rfl,rfl,by decide +kernel,rfl,by decide +kernel,by decide +kernel⟩
theorem JS (F:Fun K "__init__" "TreeTooDeep.__init__" zN f fd) (T:Tx P w K mg a) (G:ClsAt P w K mg base 1 a.Refusal "Refusal" "__init__" ["self","number","place"] (QP K)):qB P w K mg base CX0 2 f fd ["self"] (spX a.TreeTooDeep 6 false):=by
 refine F.ok JR (fun vs H Q E h=>?_) (fun cdv A outer s H vs Q E hr h=>?_)
 ·obtain ⟨e,xs,p,rfl,_⟩:=h; rfl
 ·obtain ⟨e,xs,p,rfl,hp,he,k⟩:=h
  refine ⟨_,qf (qt (Zm G hr (qc (pv 0) (qc qx (qc qx qh))))),?_⟩
  have hp0:=hp rfl
  subst hp0
  exact ⟨_,rfl,e,a.TreeTooDeep,xs,6,0,rfl,he,T.x_TreeTooDeep,T.n_TreeTooDeep_number,T.n_TreeTooDeep_place,k⟩
structure XAt (K:PySem.W.Frag) (S:Addr) (C dx:Addr) (H:Hp) (n p:Int):Prop where
 cls:zV K C
 sub:subB K C S
 nn:qp K C "number"
 np:qp K C "place"
 di:H dx=some (XDi dx (rfF n p))
def XW (K:PySem.W.Frag) (S:Addr) (H:Hp) (n p:Int) (E:XK):Prop:=∀ C dx H',qM H H'->XAt K S C dx H' n p->E (.ref C) (some dx) H'
theorem Qr {S C:Addr} {n p:Int} {E:XK} {H:Hp} (cl:zV K C) (su:subB K C S) (n1:qp K C "number") (n2:qp K C "place") (h:XW K S H n p E) :
  ([V.int p]:List V).length<=1000/\∀ e ta,H e=none->spX C n true (.ref e::[V.int p]) (upd H e (XOb e C (xv ta) none)) (fun v H2=>v=.non/\∃ dx,H2 e=some (XOb e C (xv ta) (some dx))/\E (.ref C) (some dx) (jg H2 e)) E0:=by
 refine ⟨by show 1<=1000; decide,fun e ta he=>⟨e,xv ta,p,rfl,(fun z=>by cases z),qd,fun dx H' hd hde h1 h2 hk=>⟨rfl,dx,h1,h C dx _ (fun b o hb=>?_) ⟨cl,su,n1,n2,?_⟩⟩⟩⟩
 ·have:=qg hb he
  rw [zi this]
  exact hk b o (by rw [qa this]; exact hb) this
 ·rw [zi hde]; exact h2
theorem qfA {S C:Addr} {n:Int} {E:XK} {H:Hp} (cl:zV K C) (su:subB K C S) (n1:qp K C "number") (n2:qp K C "place") (h:XW K S H n 0 E) :
  ([]:List V).length<=1000/\∀ e ta,H e=none->spX C n false (.ref e::[]) (upd H e (XOb e C (xv ta) none)) (fun v H2=>v=.non/\∃ dx,H2 e=some (XOb e C (xv ta) (some dx))/\E (.ref C) (some dx) (jg H2 e)) E0:=by
 refine ⟨by show 0<=1000; decide,fun e ta he=>⟨e,xv ta,0,rfl,(fun z=>rfl),qd,fun dx H' hd hde h1 h2 hk=>⟨rfl,dx,h1,h C dx _ (fun b o hb=>?_) ⟨cl,su,n1,n2,?_⟩⟩⟩⟩
 ·have:=qg hb he
  rw [zi this]
  exact hk b o (by rw [qa this]; exact hb) this
 ·rw [zi hde]; exact h2
end
end RT
end
section
namespace RT
open PySem PySem.Spec PyProof.Rows L2
def strOf (b:List Nat):Str:=⟨b.toArray⟩
theorem zH (i j:Int):(i == j)=decide (j=i):=by
 by_cases h:i=j
 ·subst h; simp
 ·rw [beq_eq_false_iff_ne.mpr h,decide_eq_false (fun e=>h e.symm)]
def Jy:Sp:=fun vs H Q _=>∃ c:Int,vs=[.int c]/\Q (.bl (decide (65<=c/\c<=90 \/ 97<=c/\c<=122))) H
def Z4:Sp:=fun vs H Q _=>∃ c:Int,vs=[.int c]/\Q (.bl (decide (48<=c/\c<=57))) H
def inName (c:Int):Bool:=decide (65<=c/\c<=90 \/ 97<=c/\c<=122)||decide (48<=c/\c<=57)||decide (c=45)||decide (c=95)
def qeo:Sp:=fun vs H Q _=>∃ c:Int,vs=[.int c]/\∀ H',qM H H'->Q (.bl (inName c)) H'
def qck:Sp:=fun vs H Q _=>∃ x:Str,vs=[.str x]/\x.cps.size<=1000/\∀ p,H p=none->Q (.ref p) (upd H p (.lst (nt x.cps.toList)))
def kindName (b:List Nat):Str:=if Vastoa.reserved.contains b then strOf b else "name"
def qep:Sp:=fun vs H Q _=>∃ (p:Addr) (b:List Nat),vs=[.ref p]/\H p=some (.lst (nt b))/\∀ H',qM H H'->Q (.str (kindName b)) H'
section
variable {P:Program} {w:World} {K:PySem.W.Frag} {mg:Str->Option Value} {base:Heap} {f:Addr} {fd:FuncData} {a:Ad}
theorem qeq:qo ["byte"] ["byte"] (qe jZ):=⟨rfl,rfl,rfl,by decide +kernel,rfl,by decide +kernel,by decide +kernel⟩
theorem qer (F:Fun K "is_letter" "is_letter" jZ f fd):qB P w K mg base CX0 1 f fd ["byte"] Jy:=by
 refine F.ok qeq (fun vs H Q E h=>?_) (fun cdv A outer s H vs Q E hr h=>?_)
 ·obtain ⟨c,rfl,_⟩:=h; rfl
 ·obtain ⟨c,rfl,k⟩:=h
  refine ⟨_,qf (zn (qfI (qa5 qaC qaC qx (pv 0) qx) (qgt (qa5 qaC qaC qx (pv 0) qx)))),?_⟩
  simp [qa4,qhC,qdN,tC,jt,rI0,L2.start]
  by_cases h1:65<=c <;> by_cases h2:c<=90 <;> by_cases h3:97<=c <;> by_cases h4:c<=122 <;> simp [h1,h2,h3,h4] at k ⊢ <;> exact k
theorem qe7:qo ["byte"] ["byte"] (qe Qq):=⟨rfl,rfl,rfl,by decide +kernel,rfl,by decide +kernel,by decide +kernel⟩
theorem qe8 (F:Fun K "is_digit" "is_digit" Qq f fd):qB P w K mg base CX0 1 f fd ["byte"] Z4:=by
 refine F.ok qe7 (fun vs H Q E h=>?_) (fun cdv A outer s H vs Q E hr h=>?_)
 ·obtain ⟨c,rfl,_⟩:=h; rfl
 ·obtain ⟨c,rfl,k⟩:=h
  refine ⟨_,qf (zn (qa5 qaC qaC qx (pv 0) qx)),?_⟩
  simp [qa4,qdN,tC,jt,rI0,L2.start]
  by_cases h1:48<=c <;> by_cases h2:c<=57 <;> simp [h1,h2] at k ⊢ <;> exact k
theorem qdo:qo ["byte"] ["byte"] (qe jN):=⟨rfl,rfl,rfl,by decide +kernel,rfl,by decide +kernel,by decide +kernel⟩
theorem qdp (F:Fun K "is_in_name" "is_in_name" jN f fd) (T:Tx P w K mg a) (G1:FnAt P w K mg base CX0 1 "is_letter" ["byte"] Jy) (G2:FnAt P w K mg base CX0 1 "is_digit" ["byte"] Z4) :
  qB P w K mg base CX0 2 f fd ["byte"] qeo:=by
 refine F.ok qdo (fun vs H Q E h=>?_) (fun cdv A outer s H vs Q E hr h=>?_)
 ·obtain ⟨c,rfl,_⟩:=h; rfl
 ·obtain ⟨c,rfl,k⟩:=h
  refine ⟨_,qf (zn (qfI (qZ G1 hr qI (qc (pv 0) qh)) (qfI (qZ G2 hr qI (qc (pv 0) qh))
   (qgt (qg2 (pv 0) (qc (qT T.g_MINUS) (qc (qT T.g_UNDERSCORE) qh))))))),?_⟩
  simp [qa4,qhC,Qk,jH,j7,tC,jt,qf8,qch,jR,inV,eqV,Jy,Z4,L2.start]
  by_cases h1:65<=c/\c<=90 \/ 97<=c/\c<=122
  ·rw [if_pos h1]
   have e:inName c=true:=by simp [inName,h1]
   rw [e] at k; exact k H (qM.refl H)
  ·rw [if_neg h1]
   by_cases h2:48<=c/\c<=57
   ·rw [if_pos h2]
    have e:inName c=true:=by simp [inName,h2]
    rw [e] at k; exact k H (qM.refl H)
   ·rw [if_neg h2]
    intro H' hs
    have e:inName c=(45 == c||95 == c):=by
     rw [zH,zH]
     simp only [inName,h1,h2,decide_false,Bool.false_or]
    rw [<- e]; exact k H' hs
theorem ZX:qo ["written","sign"] ["written"] (qe Qp):=⟨rfl,rfl,rfl,by decide +kernel,rfl,by decide +kernel,by decide +kernel⟩
theorem qe9 (F:Fun K "bytes_of" "bytes_of" Qp f fd) (T:Tx P w K mg a):qB P w K mg base CX0 1 f fd ["written"] qck:=by
 refine F.ok ZX (fun vs H Q E h=>?_) (fun cdv A outer s H vs Q E hr h=>?_)
 ·obtain ⟨c,rfl,_⟩:=h; rfl
 ·obtain ⟨x,rfl,hx,k⟩:=h
  refine ⟨_,qf (zn (qix (own:=[("sign",1)]) rfl ZX.nd (qjY (pv 0)) (qdT rfl) (fun _ _ _ _ _=>QS (i:=1) ZX.nd rfl (Or.inl rfl)) (fun _ _ _ _ _=>qfp)
   (fun _ _ _ _ _=>zG qhG (by rfl) T.b_ord boot_ord (qc (pv 1) qh)))),?_⟩
  refine ⟨_,rfl,x,rfl,fun D hD=>qkd (fun i H'=>H'=upd H D (.lst (nt (x.cps.toList.take i)))) rfl ?_ ?_⟩
  ·rintro i c _ hc rfl
   simp [Jd,qjS,tCB,jH,j7,jt,wipe,L2.start,qd]
   have hi:i<x.cps.size:=(Array.getElem?_eq_some_iff.mp hc).1
   refine ⟨rfl,by rw [jV,List.length_take]; exact Nat.lt_of_le_of_lt (Nat.min_le_left _ _) (QG (by omega)),?_⟩
   rw [jm]
   congr 2
   have hc':x.cps.toList[i]? = some c:=by simpa using hc
   rw [List.take_succ,hc']
   simp [nt]
  ·rintro _ rfl
   have:=k D hD
   rw [List.take_of_length_le (by simp)]
   exact this
theorem Z5:Zw.map (fun x=>x.cps.toList)=Vastoa.reserved:=by decide +kernel
theorem ZH:qo ["held","word"] ["held"] (qe jo):=⟨rfl,rfl,rfl,by decide +kernel,rfl,by decide +kernel,by decide +kernel⟩
theorem qbS (F:Fun K "kind_of_name" "kind_of_name" jo f fd) (T:Tx P w K mg a) (G:FnAt P w K mg base CX0 1 "bytes_of" ["written"] qck):qB P w K mg base CX0 2 f fd ["held"] qep:=by
 refine F.ok ZH (fun vs H Q E h=>?_) (fun cdv A outer s H vs Q E hr h=>?_)
 ·obtain ⟨p,b,rfl,_⟩:=h; rfl
 ·obtain ⟨p,b,rfl,hp,k⟩:=h
  refine ⟨_,qi (JU PassesOwn.never rfl (qdL (qT T.g_WORDS)) (QS (i:=1) ZH.nd rfl (Or.inl rfl))
   (qf (qW (qK (qdR hr.units) (pv 0) (qZ G hr qI (qc (pv 1) qh)) (qN _)) (qf (zn (pv 1))) zJ))) (qf (zn zh)),?_⟩
  refine ⟨a.WORDS,rfl,⟨_,T.t_WORDS.sq _⟩,qb3 (K:=K) (a:=a.WORDS) (xs:=Zw.map V.str) (fun i σ H'=>∃ v:Option V,σ = [some (.ref p),v]/\qM H H'/\∀ j x,j<i->Zw[j]? = some x->x.cps.toList≠b)
   ⟨none,rfl,qM.refl _,fun j x hj=>absurd hj (Nat.not_lt_zero _)⟩ (fun i σ H' _ _=>T.t_WORDS.sq _) ?_ ?_⟩
  ·rintro i y σ H' hi ⟨v,rfl,hs,hno⟩
   obtain ⟨x,hx,rfl⟩:∃ x,Zw[i]? = some x/\V.str x=y:=by
    rw [List.getElem?_map] at hi
    exact Option.map_eq_some_iff.mp hi
   have hsz:x.cps.size<=1000:=by
    have all:∀ x∈Zw,x.cps.size<=1000:=by decide +kernel
    exact all x (List.mem_of_getElem? hx)
   refine ⟨_,rfl,_,rfl,x,rfl,hsz,fun q hq=>qem (SqL.of (qH hq _ _ (hs _ _ hp))) (SqL.of qd) ⟨_,rfl,jr (fun e=>?_) fun e=>?_⟩⟩
   ·have e:b=x.cps.toList:=of_decide_eq_true e
    subst e
    refine ⟨_,rfl,?_⟩
    have h1:kindName x.cps.toList=x:=by
     have:x.cps.toList∈Vastoa.reserved:=by rw [<- Z5]; exact List.mem_map.mpr ⟨x,List.mem_of_getElem? hx,rfl⟩
     unfold kindName
     rw [if_pos (List.contains_iff_mem.mpr this)]
     rfl
    rw [h1] at k
    exact k _ (hs.trans (qH hq))
   ·refine ⟨_,rfl,hs.trans (qH hq),fun j y hj hy=>?_⟩
    by_cases hji:j=i
    ·subst hji
     rw [hx] at hy
     cases hy
     exact fun z=>e (decide_eq_true z.symm)
    ·exact hno j y (by omega) hy
  ·rintro σ H' ⟨v,rfl,hs,hno⟩
   have h1:kindName b = "name":=by
    have:b∉Vastoa.reserved:=by
     rw [<- Z5]
     intro hm
     obtain ⟨x,hx,rfl⟩:=List.mem_map.mp hm
     obtain ⟨j,hj⟩:=List.getElem?_of_mem hx
     exact hno j x (by have:=(List.getElem?_eq_some_iff.mp hj).1; rw [List.length_map]; exact this) hj rfl
    unfold kindName
    rw [if_neg (fun z=>this (List.contains_iff_mem.mp z))]
   rw [h1] at k
   exact k _ hs
def qgb (a:Ad):Sp:=fun vs H Q _=>∃ (t dx:Addr) (k p h:V),vs=[.ref t,k,p,h]/\H t=some (.ins a.Token dx [])/\Q .non (upd H t (.ins a.Token dx (tokF k p h)))
theorem qdq:qo ["self","kind","place","held"] ["self","kind","place","held"] (qe jM):=⟨rfl,rfl,rfl,by decide +kernel,rfl,by decide +kernel,by decide +kernel⟩
theorem qdr (F:Fun K "__init__" "Token.__init__" jM f fd) (T:Tx P w K mg a):qB P w K mg base CX0 1 f fd ["self","kind","place","held"] (qgb a):=by
 refine F.ok qdq (fun vs H Q E h=>?_) (fun cdv A outer s H vs Q E hr h=>?_)
 ·obtain ⟨t,dx,k,p,h,rfl,_⟩:=h; rfl
 ·obtain ⟨t,dx,kk,p,h,rfl,ht,k⟩:=h
  refine ⟨_,qi (zc (pv 0) (pv 1) rfl) (qi (zc (pv 0) (pv 2) rfl) (qf (zc (pv 0) (pv 3) rfl))),?_⟩
  refine ⟨_,rfl,_,rfl,t,_,dx,_,rfl,ht,T.c_Token,T.n_Token_kind,(by show 0<1000; decide),?_⟩
  refine ⟨_,rfl,_,rfl,t,_,dx,_,rfl,qd,T.c_Token,T.n_Token_place,(by show 1<1000; decide),?_⟩
  refine ⟨_,rfl,_,rfl,t,_,dx,_,rfl,qd,T.c_Token,T.n_Token_held,(by show 2<1000; decide),?_⟩
  rw [jm,jm]
  exact k
end
end RT
end
section
namespace RT
open PySem PySem.Spec PyProof.Rows L2
open Vastoa (Mark Marks)
abbrev qam:=Vastoa.Tok
def ju:qam->Str
 | .name _=> "name"
 | .num _=> "number"
 | .quote=> "quote"
 | .unquote=> "unquote"
 | .piece _=> "piece"
 | .hole=> "hole"
 | .unhole=> "unhole"
 | .fin=> "end"
 | .word x=>strOf x
 | .sign x=>strOf x
def qj (M:Addr->Prop) (H H':Hp):Prop:=∀ b o,H b=some o->¬ M b->H' b=some o
theorem qj.refl (M:Addr->Prop) (H:Hp):qj M H H:=fun _ _ h _=>h
theorem qj.trans {M:Addr->Prop} {H H1 H2:Hp} (h:qj M H H1) (h':qj M H1 H2):qj M H H2:=fun b o e n=>h' b o (h b o e n) n
theorem qj.of {M:Addr->Prop} {H H':Hp} (h:qM H H'):qj M H H':=fun b o e _=>h b o e
theorem qj.at_ {M:Addr->Prop} {H:Hp} {p:Addr} {o:HO} (h:M p):qj M H (upd H p o):=fun b u e n=>by rw [qa (fun z=>n (by rw [z]; exact h))]; exact e
theorem qj.new {M:Addr->Prop} {H:Hp} {p:Addr} {o:HO} (h:H p=none):qj M H (upd H p o):=qj.of (qH h)
theorem qj.wide {M M':Addr->Prop} {H H':Hp} (k:qj M H H') (h:∀ b,M b->M' b):qj M' H H':=fun b o e n=>k b o e fun z=>n (h b z)
def SqM (K:PySem.W.Frag) (M:Addr->Prop) (H:Hp) (p:Addr) (xs:List V):Prop:=(Rd H p (.lst xs)/\¬ M p) \/ ∃ (o:Obj) (its:Array Value) (n:Nat),K.lookup p=some o/\o.cls=.type "list" /\ o.dict=none/\o.data=.seq its n/\its.size<=sizeLine/\qv xs its.toList
theorem SqM.sq {K:PySem.W.Frag} {M:Addr->Prop} {H:Hp} {p:Addr} {xs:List V} (h:SqM K M H p xs):SqL K H p xs:=h.imp (·.1) id
theorem SqM.keep {K:PySem.W.Frag} {M:Addr->Prop} {H H':Hp} {p:Addr} {xs:List V} (h:SqM K M H p xs) (k:qj M H H'):SqM K M H' p xs:=by
 rcases h with ⟨q | ⟨o,q⟩,n⟩ | q
 ·exact .inl ⟨.inl (k _ _ q n),n⟩
 ·exact .inl ⟨.inr ⟨o,k _ _ q n⟩,n⟩
 ·exact .inr q
theorem Q4 {A B:Type} {R:A->B->Prop}:∀ {as:List A} {bs:List B} {x:A} {y:B},Paired R as bs->R x y->Paired R (as++[x]) (bs++[y])
 | _,_,_,_,.nil,r=>.cons r .nil
 | _,_,_,_,.cons q t,r=>.cons q (Q4 t r)
theorem qQ {A B:Type} {R S:A->B->Prop} (i:∀ x y,R x y->S x y):∀ {as:List A} {bs:List B},Paired R as bs->Paired S as bs
 | _,_,.nil=>.nil
 | _,_,.cons q t=>.cons (i _ _ q) (qQ i t)
theorem jk {A B:Type} {R:A->B->Prop}:∀ {as:List A} {bs:List B} {j:Nat} {y:B},Paired R as bs->bs[j]? = some y->∃ x,as[j]? = some x/\R x y
 | _,_,j,_,.nil,e=>by simp at e
 | _,_,0,_,.cons q t,e=>by simp at e; subst e; exact ⟨_,rfl,q⟩
 | _,_,j+1,y,.cons q t,e=>by
  obtain ⟨x,h1,h2⟩:=jk (j:=j) (y:=y) t (by simpa using e)
  exact ⟨x,by simpa using h1,h2⟩
def jE (a:Ad) (M:Addr->Prop) (H:Hp) (t:Addr) (m:Mark):Prop:=∃ dx ha,H t=some (.ins a.Token dx (tokF (.str (ju m.tok)) (.int m.place) (.ref ha)))/\H ha=some (.lst (nt (RM.held m.tok)))/\¬ M t/\¬ M ha
theorem jE.keep {a:Ad} {M:Addr->Prop} {H H':Hp} {t:Addr} {m:Mark} (h:jE a M H t m) (k:qj M H H'):jE a M H' t m:=by
 obtain ⟨dx,ha,h1,h2,h3,h4⟩:=h
 exact ⟨dx,ha,k _ _ h1 h3,k _ _ h2 h4,h3,h4⟩
structure CA where
 c:Addr
 dx:Addr
 a:Addr
 tl:Addr
 ol:Addr
def CA.M (z:CA) (b:Addr):Prop:=b=z.c \/ b=z.tl \/ b=z.ol
theorem CA.mc (z:CA):z.M z.c:=.inl rfl
theorem CA.mt (z:CA):z.M z.tl:=.inr (.inl rfl)
theorem CA.mo (z:CA):z.M z.ol:=.inr (.inr rfl)
def opS (b:Bool):V:=.str (if b then "hole" else "brace")
structure qD (a:Ad) (K:PySem.W.Frag) (H:Hp) (z:CA) (txt:List Nat) (i:Nat) (T:Marks) (O:List Bool) (lit en:Bool):Prop where
 ins:H z.c=some (.ins a.Cutter z.dx (jj (.ref z.a) (.int i) (.ref z.tl) (.ref z.ol) (.bl lit) (.bl en)))
 txt:SqM K z.M H z.a (nt txt)
 tl:∃ as,H z.tl=some (.lst (as.map V.ref))/\Paired (jE a z.M H) as T
 ol:H z.ol=some (.lst (O.reverse.map opS))
 nto:z.tl≠z.ol
section
variable {a:Ad} {K:PySem.W.Frag} {H H':Hp} {z:CA} {txt:List Nat} {i:Nat} {T:Marks} {O:List Bool} {lit en:Bool}
theorem qD.nct (h:qD a K H z txt i T O lit en):z.c≠z.tl:=by
 obtain ⟨as,h1,_⟩:=h.tl
 exact qaA h.ins h1 (by intro q; cases q)
theorem qD.nco (h:qD a K H z txt i T O lit en):z.c≠z.ol:=qaA h.ins h.ol (by intro q; cases q)
theorem qD.fresh (h:qD a K H z txt i T O lit en) {p:Addr} (hp:H p=none):¬ z.M p:=by
 obtain ⟨as,h1,_⟩:=h.tl
 rintro (rfl | rfl | rfl)
 ·rw [h.ins] at hp; cases hp
 ·rw [h1] at hp; cases hp
 ·rw [h.ol] at hp; cases hp
theorem qD.same (h:qD a K H z txt i T O lit en) (s:qM H H'):qD a K H' z txt i T O lit en:=by
 obtain ⟨as,h1,h2⟩:=h.tl
 exact ⟨s _ _ h.ins,h.txt.keep (qj.of s),⟨as,s _ _ h1,qQ (fun x y q=>q.keep (qj.of s)) h2⟩,s _ _ h.ol,h.nto⟩
theorem qD.put (h:qD a K H z txt i T O lit en) (i':Nat) (lit' en':Bool):qD a K (upd H z.c (.ins a.Cutter z.dx (jj (.ref z.a) (.int i') (.ref z.tl) (.ref z.ol) (.bl lit') (.bl en')))) z txt i' T O lit' en':=by
 obtain ⟨as,h1,h2⟩:=h.tl
 have k:qj z.M H (upd H z.c (.ins a.Cutter z.dx (jj (.ref z.a) (.int i') (.ref z.tl) (.ref z.ol) (.bl lit') (.bl en')))):=qj.at_ z.mc
 exact ⟨qd,h.txt.keep k,⟨as,by rw [qa (Ne.symm h.nct)]; exact h1,qQ (fun x y q=>q.keep k) h2⟩,by rw [qa (Ne.symm h.nco)]; exact h.ol,h.nto⟩
theorem qD.putO (h:qD a K H z txt i T O lit en) (O':List Bool):qD a K (upd H z.ol (.lst (O'.reverse.map opS))) z txt i T O' lit en:=by
 obtain ⟨as,h1,h2⟩:=h.tl
 have k:qj z.M H (upd H z.ol (.lst (O'.reverse.map opS))):=qj.at_ z.mo
 exact ⟨by rw [qa h.nco]; exact h.ins,h.txt.keep k,⟨as,by rw [qa h.nto]; exact h1,qQ (fun x y q=>q.keep k) h2⟩,qd,h.nto⟩
theorem qD.putT (h:qD a K H z txt i T O lit en) {as:List Addr} {t:Addr} {m:Mark} (h1:H z.tl=some (.lst (as.map V.ref))) (ht:jE a z.M H t m):qD a K (upd H z.tl (.lst (as.map V.ref++[.ref t]))) z txt i (T++[m]) O lit en:=by
 obtain ⟨as',h1',h2⟩:=h.tl
 rw [h1] at h1'
 have e:as=as':=by
  have:=Option.some.inj h1'
  injection this with this
  exact List.map_inj_right (fun x y q=>by injection q) |>.mp this
 subst e
 have k:qj z.M H (upd H z.tl (.lst (as.map V.ref++[.ref t]))):=qj.at_ z.mt
 exact ⟨by rw [qa h.nct]; exact h.ins,h.txt.keep k,⟨as++[t],by rw [qd,List.map_append]; rfl,qQ (fun x y q=>q.keep k) (Q4 h2 ht)⟩,by rw [qa (Ne.symm h.nto)]; exact h.ol,h.nto⟩
end
def qg8 (a:Ad) (K:PySem.W.Frag) (H:Hp) (c:Addr) (txt:List Nat):Prop:=∃ dx ta p t o l e,H c=some (.ins a.Cutter dx (jj (.ref ta) p t o l e))/\SqL K H ta (nt txt)
theorem qD.text {a:Ad} {K:PySem.W.Frag} {H:Hp} {z:CA} {txt:List Nat} {i:Nat} {T:Marks} {O:List Bool} {lit en:Bool} (h:qD a K H z txt i T O lit en):qg8 a K H z.c txt:=⟨_,_,_,_,_,_,_,h.ins,h.txt.sq⟩
def byteAt (txt:List Nat) (j:Nat):Int:=match txt[j]? with
 | some b=>(b:Int)
 | none=>-1
def Qh (a:Ad) (K:PySem.W.Frag):Sp:=fun vs H Q _=>∃ (c:Addr) (txt:List Nat) (j:Nat),vs=[.ref c,.int j]/\qg8 a K H c txt/\Q (.int (byteAt txt j)) H
def jT (a:Ad) (K:PySem.W.Frag):Sp:=fun vs H Q _=>∃ (z:CA) (txt:List Nat) (i:Nat) (T:Marks) (O:List Bool) (lit en:Bool) (t:qam) (n:Nat) (ha:Addr),vs=[.ref z.c,.str (ju t),.int n,.ref ha] /\
 qD a K H z txt i T O lit en/\H ha=some (.lst (nt (RM.held t)))/\¬ z.M ha/\T.length<1000000/\∀ H',qj z.M H H'->qD a K H' z txt (i+n) (T++[⟨i,t⟩]) O lit en->Q .non H'
section
variable {P:Program} {w:World} {K:PySem.W.Frag} {mg:Str->Option Value} {base:Heap} {f:Addr} {fd:FuncData} {a:Ad}
theorem qgc:qo ["self","place"] ["self","place"] (qe jb):=⟨rfl,rfl,rfl,by decide +kernel,rfl,by decide +kernel,by decide +kernel⟩
theorem qgd (F:Fun K "byte_at" "Cutter.byte_at" jb f fd) (T:Tx P w K mg a):qB P w K mg base CX0 1 f fd ["self","place"] (Qh a K):=by
 refine F.ok qgc (fun vs H Q E h=>?_) (fun cdv A outer s H vs Q E hr h=>?_)
 ·obtain ⟨c,txt,j,rfl,_⟩:=h; rfl
 ·obtain ⟨c,txt,j,rfl,⟨dx,ta,p,t,o,l,e,hc,ht⟩,k⟩:=h
  refine ⟨_,qf (zn (qa3 (qK qiv (pv 1) (zG zd (by rfl) T.b_len PySem.boot_len (qc (qk (pv 0) rfl) qh)) (qN _))
   (QI jK (qk (pv 0) rfl) (pv 1) (fun _ _=>rfl)) (qT T.g_NOTHING))),?_⟩
  refine ⟨_,rfl,_,rfl,c,_,dx,_,_,rfl,hc,T.c_Cutter,T.n_Cutter_text,Zb _ _ _ _ _ _,ta,_,rfl,.inl ht,_,_,rfl,rfl,_,rfl,jr (fun q=>?_) fun q=>?_⟩
  ·have hj:j<txt.length:=by
    have:=of_decide_eq_true q
    rw [jV] at this
    omega
   refine ⟨_,rfl,c,_,dx,_,_,rfl,hc,T.c_Cutter,T.n_Cutter_text,Zb _ _ _ _ _ _,_,rfl,ta,_,_,_,rfl,rfl,ht,QF (v:=V.int (txt[j]:Int)) (by simp [nt,hj]),?_⟩
   have:byteAt txt j=(txt[j]:Int):=by unfold byteAt; rw [List.getElem?_eq_getElem hj]
   rw [this] at k; exact k
  ·have hj:¬ j<txt.length:=fun z=>q (decide_eq_true (by rw [jV]; omega))
   have:byteAt txt j = -1:=by unfold byteAt; rw [List.getElem?_eq_none (by omega)]
   rw [this] at k; exact k
theorem qes:qo ["self","kind","length","held"] ["self","kind","length","held"] (qe zO):=⟨rfl,rfl,rfl,by decide +kernel,rfl,by decide +kernel,by decide +kernel⟩
theorem qet (F:Fun K "add_token" "Cutter.add_token" zO f fd) (T:Tx P w K mg a) (G:qbd P w K mg base CX0 1 a.Token "Token" ["self","kind","place","held"] (qgb a)):qB P w K mg base CX0 3 f fd ["self","kind","length","held"] (jT a K):=by
 refine F.ok qes (fun vs H Q E h=>?_) (fun cdv A outer s H vs Q E hr h=>?_)
 ·obtain ⟨z,txt,i,Tk,O,lit,en,t,n,ha,rfl,_⟩:=h; rfl
 ·obtain ⟨z,txt,i,Tk,O,lit,en,t,n,ha,rfl,hC,hha,nha,hlen,k⟩:=h
  refine ⟨_,qi (qt (js PySem.F.plainAttrs_list PySem.F.slot_list_append PySem.F.type_list_append zA (qk (pv 0) rfl)
   (qc (QD G hr qI (qc (pv 1) (qc (qk (pv 0) rfl) (qc (pv 3) qh)))) qh))) (qf (jQ (pv 0) (pv 2) Zq)),?_⟩
  obtain ⟨as,h1,h2⟩:=hC.tl
  refine ⟨_,rfl,z.c,_,z.dx,_,_,rfl,hC.ins,T.c_Cutter,T.n_Cutter_tokens,ZW _ _ _ _ _ _,.inl ⟨rfl,_,SqL.of h1⟩,?_⟩
  refine ⟨_,rfl,_,rfl,z.c,_,z.dx,_,_,rfl,hC.ins,T.c_Cutter,T.n_Cutter_place,qy _ _ _ _ _ _,_,rfl,?_⟩
  intro x dx hx hdx hne
  refine ⟨x,dx,_,_,_,rfl,qd,rfl,?_⟩
  rw [jm]
  have nx:=hC.fresh hx
  have s1:qM H (upd (upd H dx (.own x)) x (.ins a.Token dx (tokF (.str (ju t)) (.int i) (.ref ha)))):=fun b o e=>by rw [qa (qg e hx),qa (qg e hdx)]; exact e
  have C1:=hC.same s1
  have tk:jE a z.M (upd (upd H dx (.own x)) x (.ins a.Token dx (tokF (.str (ju t)) (.int i) (.ref ha)))) x ⟨i,t⟩:=⟨dx,ha,qd,s1 _ _ hha,nx,nha⟩
  have h1':=s1 _ _ h1
  refine ⟨z.tl,_,_,rfl,rfl,h1',?_,?_⟩
  ·rw [List.length_map,Paired.length h2]; exact Nat.lt_trans hlen (by decide)
  have C2:=C1.putT h1' tk
  refine ⟨_,rfl,z.c,_,z.dx,_,_,rfl,C2.ins,T.c_Cutter,T.n_Cutter_place,qy _ _ _ _ _ _,_,rfl,_,_,rfl,rfl,z.dx,_,C2.ins,(by show 6<1000; decide),?_⟩
  have C3:=C2.put (i+n) lit en
  refine k _ ?_ C3
  exact ((qj.of s1).trans (qj.at_ z.mt)).trans (qj.at_ z.mc)
end
end RT
end
section
namespace RT
open PySem PySem.Spec PyProof.Rows L2
open Vastoa (Mark Marks)
def XWM (M:Addr->Prop) (K:PySem.W.Frag) (S:Addr) (H:Hp) (n p:Int) (E:XK):Prop:=∀ C dx H',qj M H H'->XAt K S C dx H' n p->E (.ref C) (some dx) H'
theorem XWM.on {M:Addr->Prop} {K:PySem.W.Frag} {S:Addr} {H H1:Hp} {n p:Int} {E:XK} (h:XWM M K S H n p E) (k:qj M H H1):XW K S H1 n p E:=fun C dx H' s x=>h C dx H' (k.trans (qj.of s)) x
theorem XWM.from {M:Addr->Prop} {K:PySem.W.Frag} {S:Addr} {H H1:Hp} {n p:Int} {E:XK} (h:XWM M K S H n p E) (k:qj M H H1):XWM M K S H1 n p E:=fun C dx H' s x=>h C dx H' (k.trans s) x
def Run (txt:List Nat) (p:Nat->Bool) (i j:Nat):Prop:=i<=j/\j<=txt.length/\∀ x,i<=x->x<j->∃ c,txt[x]? = some c/\p c=true
theorem Run.more {txt:List Nat} {p:Nat->Bool} {i j c:Nat} (r:Run txt p i j) (e:txt[j]? = some c) (h:p c=true):Run txt p i (j+1) :=
 ⟨Nat.le_succ_of_le r.1,(List.getElem?_eq_some_iff.mp e).1,fun x h1 h2=>by
  by_cases hx:x=j
  ·subst hx; exact ⟨c,e,h⟩
  ·exact r.2.2 x h1 (by omega)⟩
theorem zp {txt:List Nat} {j c:Nat} (e:txt[j]? = some c):byteAt txt j=(c:Int):=by unfold byteAt; rw [e]
theorem jf {txt:List Nat} {j:Nat} (e:txt[j]? = none):byteAt txt j = -1:=by unfold byteAt; rw [e]
def JH (a:Ad) (K:PySem.W.Frag):Sp:=fun vs H Q _=>∃ (z:CA) (txt:List Nat) (i:Nat) (T:Marks) (O:List Bool) (lit en:Bool),vs=[.ref z.c]/\qD a K H z txt i T O lit en/\i<=txt.length /\
 ∀ H' j,qj z.M H H'->qD a K H' z txt j T O lit en->Run txt (fun y=>y != 10) i j->(∀ c,txt[j]? = some c->c=10)->Q .non H'
section
variable {P:Program} {w:World} {K:PySem.W.Frag} {mg:Str->Option Value} {base:Heap} {f:Addr} {fd:FuncData} {a:Ad}
theorem qbT:qo ["self"] ["self"] (qe zl):=⟨rfl,rfl,rfl,by decide +kernel,rfl,by decide +kernel,by decide +kernel⟩
theorem qbU (F:Fun K "pass_comment" "Cutter.pass_comment" zl f fd) (T:Tx P w K mg a) (G:zS P w K mg base CX0 1 a.Cutter "byte_at" ["self","place"] (Qh a K)):qB P w K mg base CX0 2 f fd ["self"] (JH a K):=by
 refine F.ok qbT (fun vs H Q E h=>?_) (fun cdv A outer s H vs Q E hr h=>?_)
 ·obtain ⟨z,txt,i,Tk,O,lit,en,rfl,_⟩:=h; rfl
 ·obtain ⟨z,txt,i,Tk,O,lit,en,rfl,hC,hi,k⟩:=h
  refine ⟨_,qf (Qa PassesOwn.never (qc6 (qY G T.c_Cutter hr qI (pv 0) (qc (qk (pv 0) rfl) qh)) (qc (qT T.g_LINE_FEED) (qc (qT T.g_NOTHING) qh)))
   (qf (jQ (pv 0) qx Zq))),?_⟩
  refine ⟨fun m σ H'=>σ = [some (.ref z.c)]/\∃ j,qD a K H' z txt j Tk O lit en/\qj z.M H H'/\Run txt (fun y=>y != 10) i j/\m=txt.length - j,⟨_,rfl,i,hC,qj.refl _ _,⟨Nat.le_refl _,hi,fun x h1 h2=>by omega⟩,rfl⟩,?_⟩
  rintro m σ H1 ⟨rfl,j,C1,k1,r1,rfl⟩
  refine ⟨_,rfl,z.c,z.dx,_,rfl,C1.ins,zj _ _ _ _ _ _,_,rfl,z.c,_,z.dx,_,_,rfl,C1.ins,T.c_Cutter,T.n_Cutter_place,qy _ _ _ _ _ _,z.c,txt,j,rfl,C1.text,rfl,fun H2 s2=>⟨_,rfl,?_⟩⟩
  have C2:=C1.same s2
  cases e:txt[j]? with
  | none=>
   rw [jf e]
   refine zr ?_
   exact k H2 j (k1.trans (qj.of s2)) C2 r1 fun c hc=>by rw [e] at hc; cases hc
  | some c=>
   rw [zp e]
   have hin:inV (.int (c:Int)) [V.int 10,V.int (-1)]=decide (c=10):=by
    simp only [inV,List.any_cons,List.any_nil,eqV,zH,Bool.or_false]
    have:¬ ((c:Int) = -1):=by omega
    simp only [this,decide_false,Bool.or_false]
    by_cases h:c=10
    ·subst h; rfl
    ·rw [decide_eq_false h,decide_eq_false (by omega)]
   rw [hin]
   by_cases h:c=10
   ·rw [decide_eq_true h]
    refine zr ?_
    exact k H2 j (k1.trans (qj.of s2)) C2 r1 fun c' hc=>by rw [e] at hc; cases hc; exact h
   ·rw [decide_eq_false h]
    refine zU ⟨_,fun σ' H' q=>q,?_⟩
    refine ⟨_,rfl,z.c,_,z.dx,_,_,rfl,C2.ins,T.c_Cutter,T.n_Cutter_place,qy _ _ _ _ _ _,_,_,rfl,rfl,z.dx,_,C2.ins,(by show 6<1000; decide),?_⟩
    have C3:=C2.put (j+1) lit en
    have hj:j<txt.length:=(List.getElem?_eq_some_iff.mp e).1
    refine ⟨txt.length - (j+1),by omega,rfl,j+1,C3,(k1.trans (qj.of s2)).trans (qj.at_ z.mc),r1.more e (by simpa using h),rfl⟩
end
end RT
end
section
namespace RT
open PySem PySem.Spec PyProof.Rows L2
open Vastoa (Mark Marks)
def piece (txt:List Nat) (i j:Nat):List Nat:=(txt.drop i).take (j - i)
theorem qfB (txt:List Nat) {i j:Nat} (h:i<=j) (hj:j<=txt.length):JY (nt txt) (some (i:Int)) (some (j:Int))=nt (piece txt i j):=by
 unfold JY piece
 rw [HT.qaE,HT.qaE,jV,Nat.min_eq_left hj,Nat.min_eq_left (Nat.le_trans h hj)]
 simp only [nt,List.map_take,List.map_drop]
theorem qdb {txt:List Nat} {i j:Nat} (h:i<=j) (hj:j<=txt.length):(piece txt i j).length=j - i:=by
 unfold piece; rw [List.length_take,List.length_drop]; omega
theorem qeu (c:Nat):inName (c:Int)=Vastoa.inner c:=by
 unfold inName Vastoa.inner Vastoa.letter Vastoa.digit
 rw [Bool.eq_iff_iff]
 simp
 omega
theorem qge:inName (-1)=false:=by decide
def nameTok (b:List Nat):qam:=if Vastoa.reserved.contains b then .word b else .name b
theorem qev (b:List Nat):ju (nameTok b)=kindName b:=by
 unfold nameTok kindName
 split <;> rfl
theorem qew (b:List Nat):RM.held (nameTok b)=b:=by
 unfold nameTok
 split <;> rfl
def qdc (a:Ad) (K:PySem.W.Frag):Sp:=fun vs H Q E=>∃ (z:CA) (txt:List Nat) (i:Nat) (T:Marks) (O:List Bool) (lit en:Bool),vs=[.ref z.c]/\qD a K H z txt i T O lit en/\i<=txt.length/\T.length<1000000 /\
 ∀ j,Run txt Vastoa.inner i j->(∀ c,txt[j]? = some c->Vastoa.inner c=false)->(32<j - i->XWM z.M K a.Refusal H 2 i E) /\
  (j - i<=32->∀ H',qj z.M H H'->qD a K H' z txt j (T++[⟨i,nameTok (piece txt i j)⟩]) O lit en->Q .non H')
section
variable {P:Program} {w:World} {K:PySem.W.Frag} {mg:Str->Option Value} {base:Heap} {f:Addr} {fd:FuncData} {a:Ad}
theorem Q5:qo ["self","end","held"] ["self"] (qe z0):=⟨rfl,rfl,rfl,by decide +kernel,rfl,by decide +kernel,by decide +kernel⟩
theorem qfa (F:Fun K "cut_name" "Cutter.cut_name" z0 f fd) (T:Tx P w K mg a) (Gb:zS P w K mg base CX0 1 a.Cutter "byte_at" ["self","place"] (Qh a K))
  (Gi:FnAt P w K mg base CX0 2 "is_in_name" ["byte"] qeo) (Gk:FnAt P w K mg base CX0 2 "kind_of_name" ["held"] qep) (Ga:zS P w K mg base CX0 3 a.Cutter "add_token" ["self","kind","length","held"] (jT a K))
  (Gx:QA P w K mg base 2 a.WrongToken "WrongToken" ["self","place"] (spX a.WrongToken 2 true)):qB P w K mg base (CXR P w) 4 f fd ["self"] (qdc a K):=by
 refine F.okR Q5 (fun vs H Q E h=>?_) (fun cdv A outer s H vs Q E hr h=>?_)
 ·obtain ⟨z,txt,i,Tk,O,lit,en,rfl,_⟩:=h; rfl
 ·obtain ⟨z,txt,i,Tk,O,lit,en,rfl,hC,hi,hT,k⟩:=h
  have hr1:qE 1 _:=hr.mono (by decide)
  have hr2:qE 2 _:=hr.mono (by decide)
  refine ⟨_,qi (qU (i:=1) Q5.nd rfl (Or.inl rfl) (qk (pv 0) rfl))
   (qi (Qa PassesOwn.leaving (QH (qZ Gi hr2 qI (qc (qY Gb T.c_Cutter hr1 qI (pv 0) (qc (pv 1) qh)) qh))) (qf (qgu (i:=1) Q5.nd rfl (Or.inl rfl) qx qgv)))
   (qi (qW (qK qaD (Zh qbo (pv 1) (qk (pv 0) rfl)) (qT T.g_MOST_NAME_BYTES) (qN _)) (qf (jD Gx hr (qc (qk (pv 0) rfl) qh))) zJ)
   (qi (qU (i:=2) Q5.nd rfl (Or.inl rfl) (Jh qb7 (qk (pv 0) rfl) (QE (qk (pv 0) rfl)) (QE (pv 1))))
   (qf (qt (qY Ga T.c_Cutter hr qI (pv 0) (qc (qZ Gk hr2 qI (qc (pv 2) qh)) (qc (zG zd (by rfl) T.b_len PySem.boot_len (qc (pv 2) qh)) (qc (pv 2) qh))))))))),?_⟩
  refine ⟨_,rfl,z.c,_,z.dx,_,_,rfl,hC.ins,T.c_Cutter,T.n_Cutter_place,qy _ _ _ _ _ _,?_⟩
  refine ⟨fun m σ H'=>∃ j:Nat,σ = [some (.ref z.c),some (.int (j:Int)),none]/\qD a K H' z txt i Tk O lit en/\qj z.M H H'/\Run txt Vastoa.inner i j/\m=txt.length - j,⟨_,i,rfl,hC,qj.refl _ _,⟨Nat.le_refl _,hi,fun x h1 h2=>by omega⟩,rfl⟩,?_⟩
  rintro m σ H1 ⟨j,rfl,C1,k1,r1,rfl⟩
  refine ⟨_,rfl,z.c,z.dx,_,rfl,C1.ins,zj _ _ _ _ _ _,_,rfl,z.c,txt,j,rfl,C1.text,_,rfl,fun H2 s2=>⟨_,rfl,?_⟩⟩
  have C2:=C1.same s2
  have k2:=k1.trans (qj.of s2)
  have over:(∀ c,txt[j]? = some c->Vastoa.inner c=false)->∀ D:Ends,D.rt=Q->D.nx=(fun _ H'=>Q .non H') ->
    qdK (qhD (qbq (tOp (rI0 fun i j=>.bl (decide (j<i))) (tOp (rI0 fun i j=>.int (i - j)) (jt 1) (qb6 K (jt 0) "place")) (tC (.int 32)))) (qaa a.WrongToken (spX a.WrongToken 2 true) E (jH (qb6 K (jt 0) "place") j7)) qit)
     (qdK (qfJ (tSl (qjO K) (qb6 K (jt 0) "text") (qfP (qb6 K (jt 0) "place")) (qfP (jt 1))) (Jd 2))
      (qiu (qby a.Cutter "add_token" (jT a K) [] E0 (jt 0) (jH (Qk qep [] E0 (jH (jt 2) j7)) (jH (tCB (fun xs H Q=>∃ p ys,xs=[V.ref p]/\(SqL K H p ys \/ SqT K H p ys)/\Q (.int ys.length) H) (jH (jt 2) j7)) (jH (jt 2) j7)))))) D [some (.ref z.c),some (.int (j:Int)),none] H2:=by
   intro hend D hD hN
   obtain ⟨kx,ko⟩:=k j r1 hend
   have hij:=r1.1
   refine ⟨_,rfl,_,rfl,z.c,_,z.dx,_,_,rfl,C2.ins,T.c_Cutter,T.n_Cutter_place,qy _ _ _ _ _ _,_,_,rfl,rfl,_,_,rfl,rfl,_,rfl,jr (fun q=>?_) fun q=>?_⟩
   ·have q:=of_decide_eq_true q
    refine ⟨_,rfl,z.c,_,z.dx,_,_,rfl,C2.ins,T.c_Cutter,T.n_Cutter_place,qy _ _ _ _ _ _,?_⟩
    exact Qr T.x_WrongToken T.u_WrongToken T.n_WrongToken_number T.n_WrongToken_place ((kx (by omega)).on k2)
   ·have q:¬ (32:Int)<(j:Int) - i:=fun y=>q (decide_eq_true y)
    refine ⟨_,rfl,z.c,_,z.dx,_,_,rfl,C2.ins,T.c_Cutter,T.n_Cutter_text,Zb _ _ _ _ _ _,_,rfl,z.c,_,z.dx,_,_,rfl,C2.ins,T.c_Cutter,T.n_Cutter_place,qy _ _ _ _ _ _,_,rfl,_,rfl,_,rfl,z.a,_,rfl,C2.txt.sq,fun p hp=>?_⟩
    rw [qfB txt hij r1.2.1]
    have C3:=C2.same (qH (o:=.lst (nt (piece txt i j))) hp)
    refine ⟨_,rfl,z.c,z.dx,_,rfl,C3.ins,qO _ _ _ _ _ _,_,rfl,p,piece txt i j,rfl,qd,fun H4 s4=>?_⟩
    have C4:=C3.same s4
    have hp4:=s4 _ _ qd
    refine ⟨_,rfl,p,_,rfl,.inl (SqL.of hp4),_,rfl,z,txt,i,Tk,O,lit,en,nameTok (piece txt i j),j - i,p,?_,C4,by rw [qew]; exact hp4,C2.fresh hp,hT,fun H5 k5 C5=>?_⟩
    ·rw [qev,jV,qdb hij r1.2.1]; rfl
    ·rw [hN]
     rw [show i+(j - i)=j by omega] at C5
     exact ko (by omega) H5 (((k2.trans (qj.new hp)).trans (qj.of s4)).trans k5) C5
  cases e:txt[j]? with
  | none=>
   rw [jf e,qge]
   exact zr (over (fun c hc=>by rw [e] at hc; cases hc) _ rfl rfl)
  | some c=>
   rw [zp e,qeu]
   cases hin:Vastoa.inner c with
   | false=>exact zr (over (fun c' hc=>by rw [e] at hc; cases hc; exact hin) _ rfl rfl)
   | true=>
    refine zU ⟨_,fun σ' H' q=>q,?_⟩
    have hj:j<txt.length:=(List.getElem?_eq_some_iff.mp e).1
    refine ⟨_,rfl,_,_,rfl,rfl,txt.length - (j+1),by omega,j+1,rfl,C2,k2,r1.more e hin,rfl⟩
end
end RT
end
section
namespace RT
open PySem PySem.Spec PyProof.Rows L2
open Vastoa (Mark Marks)
def qbV (c:Int):Bool:=decide (48<=c/\c<=57)
theorem qan (c:Nat):qbV (c:Int)=Vastoa.digit c:=by
 unfold qbV Vastoa.digit
 rw [Bool.eq_iff_iff]
 simp
 omega
theorem look {p:Nat->Bool} {q:Int->Bool} (txt:List Nat) (j:Nat) (h:∀ c:Nat,q (c:Int)=p c) (he:q (-1)=false):∃ b,q (byteAt txt j)=b/\(b=true->∃ c,txt[j]? = some c/\p c=true)/\(b=false->∀ c,txt[j]? = some c->p c=false):=by
 cases e:txt[j]? with
 | none=>exact ⟨false,by rw [jf e]; exact he,(fun z=>by cases z),fun _ c hc=>by cases hc⟩
 | some c=>
  refine ⟨p c,by rw [zp e]; exact h c,fun z=>⟨c,rfl,z⟩,fun z c' hc=>?_⟩
  cases hc; exact z
theorem qjj {t u:TT} {σ : L2.St} {H:Hp} {Q:Bool->Hp->Prop} (b1 b2:Bool) (h1:∀ Q:Bool->Hp->Prop,Q b1 H->t σ H Q) (h2:b1=false->∀ Q:Bool->Hp->Prop,Q b2 H->u σ H Q) (q:Q (b1||b2) H):tOr t u σ H Q:=by
 refine h1 _ ?_
 cases b1 with
 | true=>exact zU q
 | false=>exact zr (h2 rfl _ q)
theorem qid {t u:TT} {σ : L2.St} {H:Hp} {Q:Bool->Hp->Prop} (b1 b2:Bool) (h1:∀ Q:Bool->Hp->Prop,Q b1 H->t σ H Q) (h2:b1=true->∀ Q:Bool->Hp->Prop,Q b2 H->u σ H Q) (q:Q (b1&&b2) H):qjF t u σ H Q:=by
 refine h1 _ ?_
 cases b1 with
 | true=>exact zU (h2 rfl _ q)
 | false=>exact zr q
theorem qfb {txt:List Nat} {i j c:Nat} (h:i<j) (e:txt[i]? = some c):(piece txt i j)[0]? = some c:=by
 unfold piece
 rw [List.getElem?_take,if_pos (by omega),List.getElem?_drop]
 exact e
def qaX (a:Ad) (K:PySem.W.Frag):Sp:=fun vs H Q E=>∃ (z:CA) (txt:List Nat) (i:Nat) (T:Marks) (O:List Bool) (lit en:Bool),vs=[.ref z.c]/\qD a K H z txt i T O lit en/\i<=txt.length/\T.length<1000000 /\
 ∀ j,Run txt Vastoa.digit i j->(∀ c,txt[j]? = some c->Vastoa.digit c=false)->((30<j - i \/ (txt[i]? = some 48/\1<j - i))->XWM z.M K a.Refusal H 2 i E) /\
  (¬ (30<j - i \/ (txt[i]? = some 48/\1<j - i))->∀ H',qj z.M H H'->qD a K H' z txt j (T++[⟨i,.num (piece txt i j)⟩]) O lit en->Q .non H')
section
variable {P:Program} {w:World} {K:PySem.W.Frag} {mg:Str->Option Value} {base:Heap} {f:Addr} {fd:FuncData} {a:Ad}
theorem QB:qo ["self","end","held"] ["self"] (qe zE):=⟨rfl,rfl,rfl,by decide +kernel,rfl,by decide +kernel,by decide +kernel⟩
theorem qds (F:Fun K "cut_number" "Cutter.cut_number" zE f fd) (T:Tx P w K mg a) (Gb:zS P w K mg base CX0 1 a.Cutter "byte_at" ["self","place"] (Qh a K))
  (Gi:FnAt P w K mg base CX0 1 "is_digit" ["byte"] Z4) (Ga:zS P w K mg base CX0 3 a.Cutter "add_token" ["self","kind","length","held"] (jT a K))
  (Gx:QA P w K mg base 2 a.WrongToken "WrongToken" ["self","place"] (spX a.WrongToken 2 true)):qB P w K mg base (CXR P w) 4 f fd ["self"] (qaX a K):=by
 refine F.okR QB (fun vs H Q E h=>?_) (fun cdv A outer s H vs Q E hr h=>?_)
 ·obtain ⟨z,txt,i,Tk,O,lit,en,rfl,_⟩:=h; rfl
 ·obtain ⟨z,txt,i,Tk,O,lit,en,rfl,hC,hi,hT,k⟩:=h
  have hr1:qE 1 _:=hr.mono (by decide)
  refine ⟨_,qi (qU (i:=1) QB.nd rfl (Or.inl rfl) (qk (pv 0) rfl))
   (qi (Qa PassesOwn.leaving (QH (qZ Gi hr1 qI (qc (qY Gb T.c_Cutter hr1 qI (pv 0) (qc (pv 1) qh)) qh))) (qf (qgu (i:=1) QB.nd rfl (Or.inl rfl) qx qgv)))
   (qi (qU (i:=2) QB.nd rfl (Or.inl rfl) (Jh qb7 (qk (pv 0) rfl) (QE (qk (pv 0) rfl)) (QE (pv 1))))
   (qi (qW (qku (qK qaD (zG zd (by rfl) T.b_len PySem.boot_len (qc (pv 2) qh)) (qT T.g_MOST_DIGITS) (qN _))
    (qjG (qdJ (qK qaD (zG zd (by rfl) T.b_len PySem.boot_len (qc (pv 2) qh)) qx (qN _))
     (qb1 (qK jd (QI jK (pv 2) qx (fun _ _=>rfl)) (qT T.g_ZERO) (qN _)))).pt)).pt
    (qf (jD Gx hr (qc (qk (pv 0) rfl) qh))) zJ)
   (qf (qt (qY Ga T.c_Cutter hr qI (pv 0) (qc zh (qc (zG zd (by rfl) T.b_len PySem.boot_len (qc (pv 2) qh)) (qc (pv 2) qh))))))))),?_⟩
  refine ⟨_,rfl,z.c,_,z.dx,_,_,rfl,hC.ins,T.c_Cutter,T.n_Cutter_place,qy _ _ _ _ _ _,?_⟩
  refine ⟨fun m σ H'=>∃ j:Nat,σ = [some (.ref z.c),some (.int (j:Int)),none]/\qD a K H' z txt i Tk O lit en/\qj z.M H H'/\Run txt Vastoa.digit i j/\m=txt.length - j,⟨_,i,rfl,hC,qj.refl _ _,⟨Nat.le_refl _,hi,fun x h1 h2=>by omega⟩,rfl⟩,?_⟩
  rintro m σ H1 ⟨j,rfl,C2,k2,r1,rfl⟩
  refine ⟨_,rfl,z.c,z.dx,_,rfl,C2.ins,zj _ _ _ _ _ _,_,rfl,z.c,txt,j,rfl,C2.text,_,rfl,_,rfl,?_⟩
  obtain ⟨b,eb,ht,hf⟩:=look txt j qan (by decide)
  show if qbV (byteAt txt j)=true then _ else _
  rw [eb]
  cases b with
  | true=>
   obtain ⟨c,e,hin⟩:=ht rfl
   refine zU ⟨_,fun σ' H' q=>q,?_⟩
   have hj:j<txt.length:=(List.getElem?_eq_some_iff.mp e).1
   exact ⟨_,rfl,_,_,rfl,rfl,txt.length - (j+1),by omega,j+1,rfl,C2,k2,r1.more e hin,rfl⟩
  | false=>
   obtain ⟨kx,ko⟩:=k j r1 (hf rfl)
   have hij:=r1.1
   have hl:(piece txt i j).length=j - i:=qdb hij r1.2.1
   refine zr ⟨_,rfl,z.c,_,z.dx,_,_,rfl,C2.ins,T.c_Cutter,T.n_Cutter_text,Zb _ _ _ _ _ _,_,rfl,z.c,_,z.dx,_,_,rfl,C2.ins,T.c_Cutter,T.n_Cutter_place,qy _ _ _ _ _ _,_,rfl,_,rfl,_,rfl,z.a,_,rfl,C2.txt.sq,fun p hp=>?_⟩
   rw [qfB txt hij r1.2.1]
   have C3:=C2.same (qH (o:=.lst (nt (piece txt i j))) hp)
   have k3:=k2.trans (qj.new (o:=.lst (nt (piece txt i j))) hp)
   have hp3:(upd H1 p (.lst (nt (piece txt i j)))) p=some (.lst (nt (piece txt i j))):=qd
   generalize upd H1 p (.lst (nt (piece txt i j)))=H3 at C3 k3 hp3 ⊢
   dsimp only [Jd,qdK,qhD]
   refine qjj (decide (30<j - i)) (decide (1<j - i)&&decide (txt[i]? = some 48)) (fun Q q=>?_) (fun _ Q q=>qid (decide (1<j - i)) (decide (txt[i]? = some 48)) (fun Q q=>?_) (fun h1 Q q=>?_) q) ?_
   ·refine ⟨_,rfl,p,_,rfl,.inl (SqL.of hp3),_,_,rfl,rfl,_,rfl,?_⟩
    rw [jV,hl,show decide ((30:Int)<((j - i:Nat):Int))=decide (30<j - i) from decide_eq_decide.mpr (by omega)]; exact q
   ·refine ⟨_,rfl,p,_,rfl,.inl (SqL.of hp3),_,_,rfl,rfl,_,rfl,?_⟩
    rw [jV,hl,show decide ((1:Int)<((j - i:Nat):Int))=decide (1<j - i) from decide_eq_decide.mpr (by omega)]; exact q
   ·have h1:=of_decide_eq_true h1
    obtain ⟨c,hc,_⟩:=r1.2.2 i (Nat.le_refl _) (by omega)
    refine ⟨_,rfl,p,_,_,_,rfl,rfl,SqL.of hp3,QF (j:=0) (v:=V.int (c:Int)) (by unfold nt; rw [List.getElem?_map,qfb (by omega) hc]; rfl),rfl,_,rfl,?_⟩
    rw [jn,zH,show decide ((48:Int)=(c:Int))=decide (txt[i]? = some 48) from decide_eq_decide.mpr (by rw [hc]; constructor <;> (intro y; first | (cases y; rfl) | (congr 1; omega)))]
    exact q
   ·refine jr (fun q=>?_) fun q=>?_
    ·simp only [Bool.or_eq_true,Bool.and_eq_true,decide_eq_true_eq] at q
     exact ⟨_,rfl,z.c,_,z.dx,_,_,rfl,C3.ins,T.c_Cutter,T.n_Cutter_place,qy _ _ _ _ _ _,Qr T.x_WrongToken T.u_WrongToken T.n_WrongToken_number T.n_WrongToken_place ((kx (q.imp id And.symm)).on k3)⟩
    ·simp only [Bool.or_eq_true,Bool.and_eq_true,decide_eq_true_eq] at q
     refine ⟨_,rfl,z.c,z.dx,_,rfl,C3.ins,qO _ _ _ _ _ _,_,rfl,p,_,rfl,.inl (SqL.of hp3),_,rfl,z,txt,i,Tk,O,lit,en,.num (piece txt i j),j - i,p,by rw [jV,hl]; rfl,C3,hp3,C2.fresh hp,hT,fun H5 k5 C5=>?_⟩
     rw [show i+(j - i)=j by omega] at C5
     exact ko (fun y=>q (y.imp id And.symm)) H5 (k3.trans k5) C5
end
end RT
end
section
namespace RT
open PySem PySem.Spec PyProof.Rows L2
open Vastoa (Mark Marks)
def qbW (a:Ad) (K:PySem.W.Frag):Sp:=fun vs H Q E=>∃ (z:CA) (txt:List Nat) (i:Nat) (T:Marks) (O:List Bool) (en:Bool),vs=[.ref z.c]/\qD a K H z txt i T O false en/\T.length<1000000 /\
 (∀ H' O',O=true::O'->qj z.M H H'->qD a K H' z txt (i+1) (T++[⟨i,.unhole⟩]) O' true en->Q .non H') /\
 (∀ H',O.head? ≠ some true->qj z.M H H'->qD a K H' z txt (i+1) (T++[⟨i,.sign [125]⟩]) (O.drop 1) false en->Q .non H')
def qdd (a:Ad) (K:PySem.W.Frag):Sp:=fun vs H Q E=>∃ (z:CA) (txt:List Nat) (i:Nat) (T:Marks) (O:List Bool) (lit en:Bool),vs=[.ref z.c]/\qD a K H z txt i T O lit en/\i<=txt.length/\T.length<1000000 /\
 (Vastoa.signAt (txt.drop i)=none->XWM z.M K a.Refusal H 2 i E)/\∀ x,Vastoa.signAt (txt.drop i)=some x->∀ H',qj z.M H H'->qD a K H' z txt (i+x.length) (T++[⟨i,.sign x⟩]) O lit en->Q .non H'
theorem qjk:Str.ofString "{" = strOf [123]:=by decide +kernel
theorem qg9:Str.ofString "}" = strOf [125]:=by decide +kernel
theorem qha (txt:List Nat) {i:Nat} (l:Nat) (hi:i<=txt.length):JY (nt txt) (some (i:Int)) (some ((i:Int)+(l:Int)))=nt ((txt.drop i).take l):=by
 unfold JY
 rw [show ((i:Int)+(l:Int))=((i+l:Nat):Int) by omega,HT.qaE,HT.qaE,jV,Nat.min_eq_left hi]
 simp only [nt,List.map_take,List.map_drop]
 by_cases h:i+l<=txt.length
 ·rw [Nat.min_eq_left h,show i+l - i=l by omega]
 ·rw [Nat.min_eq_right (by omega),List.take_of_length_le (by simp),List.take_of_length_le (by simp; omega)]
theorem qao:Qu.map (fun x=>x.cps.toList)=Vastoa.signs2++Vastoa.signs1:=by decide +kernel
theorem qfc:∀ x∈Qu,x.cps.size<=1000:=by decide +kernel
theorem qie:∀ s∈Vastoa.signs2,s.length=2:=by decide +kernel
theorem qkh:∀ s∈Vastoa.signs1,s.length=1:=by decide +kernel
theorem qif {b:List Nat} {j:Nat} {x:Str} (hj:Qu[j]? = some x) (e:b.take x.cps.toList.length=x.cps.toList) (no:∀ y z,y<j->Qu[y]? = some z->b.take z.cps.toList.length≠z.cps.toList):Vastoa.signAt b=some x.cps.toList:=by
 have hm:(Vastoa.signs2++Vastoa.signs1)[j]? = some x.cps.toList:=by rw [<- qao,List.getElem?_map,hj]; rfl
 have no':∀ y s,y<j->(Vastoa.signs2++Vastoa.signs1)[y]? = some s->b.take s.length≠s:=fun y s hy hs=>by
  rw [<- qao,List.getElem?_map] at hs
  obtain ⟨z,hz,rfl⟩:=Option.map_eq_some_iff.mp hs
  exact no y z hy hz
 generalize x.cps.toList=s at e hm
 unfold Vastoa.signAt
 by_cases h6:j<6
 ·have hs:s∈Vastoa.signs2:=by
   rw [List.getElem?_append_left (by exact h6)] at hm
   exact List.mem_of_getElem? hm
  rw [qie s hs] at e
  rw [e,if_pos (List.contains_iff_mem.mpr hs)]
 ·have hs:s∈Vastoa.signs1:=by
   rw [List.getElem?_append_right (by exact Nat.le_of_not_lt h6)] at hm
   exact List.mem_of_getElem? hm
  rw [qkh s hs] at e
  have n2:¬ (Vastoa.signs2.contains (b.take 2)=true):=fun z=>by
   have z:=List.contains_iff_mem.mp z
   obtain ⟨y,hy⟩:=List.getElem?_of_mem z
   have hy6:y<6:=(List.getElem?_eq_some_iff.mp hy).1
   refine no' y _ (by omega) (by rw [List.getElem?_append_left hy6]; exact hy) ?_
   rw [qie _ z]
  rw [if_neg n2,e,if_pos (List.contains_iff_mem.mpr hs)]
theorem qhb {b:List Nat} (no:∀ (y:Nat) (z:Str),Qu[y]? = some z->b.take z.cps.toList.length≠z.cps.toList):Vastoa.signAt b=none:=by
 have no':∀ s∈Vastoa.signs2++Vastoa.signs1,b.take s.length≠s:=fun s hs=>by
  rw [<- qao] at hs
  obtain ⟨z,hz,rfl⟩:=List.mem_map.mp hs
  obtain ⟨y,hy⟩:=List.getElem?_of_mem hz
  exact no y z hy
 unfold Vastoa.signAt
 rw [if_neg,if_neg]
 ·intro z
  have z:=List.contains_iff_mem.mp z
  exact no' _ (List.mem_append_right _ z) (by rw [qkh _ z])
 ·intro z
  have z:=List.contains_iff_mem.mp z
  exact no' _ (List.mem_append_left _ z) (by rw [qie _ z])
section
variable {P:Program} {w:World} {K:PySem.W.Frag} {mg:Str->Option Value} {base:Heap} {f:Addr} {fd:FuncData} {a:Ad}
theorem Zc:qo ["self","closed"] ["self"] (qe zb):=⟨rfl,rfl,rfl,by decide +kernel,rfl,by decide +kernel,by decide +kernel⟩
theorem qap (F:Fun K "cut_right_brace" "Cutter.cut_right_brace" zb f fd) (T:Tx P w K mg a) (Ga:zS P w K mg base CX0 3 a.Cutter "add_token" ["self","kind","length","held"] (jT a K)) :
  qB P w K mg base CX0 4 f fd ["self"] (qbW a K):=by
 refine F.ok Zc (fun vs H Q E h=>?_) (fun cdv A outer s H vs Q E hr h=>?_)
 ·obtain ⟨z,txt,i,Tk,O,en,rfl,_⟩:=h; rfl
 ·obtain ⟨z,txt,i,Tk,O,en,rfl,hC,hT,k1,k2⟩:=h
  refine ⟨_,qi (qU (i:=1) Zc.nd rfl (Or.inl rfl) (qa3 (Zp (qk (pv 0) rfl) (by intro _; rfl)) (J1 PySem.F.plainAttrs_list PySem.F.slot_list_pop PySem.F.type_list_pop J4 (qk (pv 0) rfl)) zh))
   (qf (qW (qK jd (pv 1) zh (qN _)) (qi (qt (qY Ga T.c_Cutter hr qI (pv 0) (qc zh (qc qx (qc (zo qh) qh))))) (qf (zc (pv 0) Jc rfl)))
    (qf (qt (qY Ga T.c_Cutter hr qI (pv 0) (qc zh (qc qx (qc (zo qh) qh)))))))),?_⟩
  refine ⟨_,rfl,z.c,_,z.dx,_,_,rfl,hC.ins,T.c_Cutter,T.n_Cutter_opened,Q3 _ _ _ _ _ _,_,.inl ⟨_,SqL.of hC.ol,rfl⟩,?_⟩
  have unb:O.head? ≠ some true->∀ (H1:Hp) (p:Addr),H1 p=none->qj z.M H H1->qD a K H1 z txt i Tk (O.drop 1) false en ->
    jT a K [.ref z.c,.str "}",.int 1,.ref p] (upd H1 p (.lst [])) (fun x H'=>Q .non H') E0:=fun hO H1 p hp k3 C1=>by
   refine ⟨z,txt,i,Tk,O.drop 1,false,en,.sign [125],1,p,by rw [qg9]; rfl,C1.same (qH hp),qd,C1.fresh hp,hT,fun H' k4 C4=>?_⟩
   exact k2 H' hO ((k3.trans (qj.new hp)).trans k4) C4
  cases O with
  | nil=>
   refine zr ⟨_,rfl,rfl,_,rfl,zr ?_⟩
   exact ⟨_,rfl,z.c,z.dx,_,rfl,hC.ins,qO _ _ _ _ _ _,Nat.zero_le _,fun p hp=>unb (by simp) H p hp (qj.refl _ _) hC⟩
  | cons b O=>
   have hne:(!(List.map opS (b::O).reverse).isEmpty)=true:=by simp
   rw [hne]
   have hpop:(List.map opS (b::O).reverse)[(List.map opS (b::O).reverse).length - 1]? = some (opS b):=by simp
   refine zU ⟨_,rfl,z.c,_,z.dx,_,_,rfl,hC.ins,T.c_Cutter,T.n_Cutter_opened,Q3 _ _ _ _ _ _,.inl ⟨rfl,_,SqL.of hC.ol⟩,z.ol,_,opS b,rfl,rfl,hC.ol,hpop,?_⟩
   have ed:(List.map opS (b::O).reverse).dropLast=List.map opS O.reverse:=by simp
   rw [ed]
   have C1:=hC.putO O
   have k3:qj z.M H (upd H z.ol (.lst (List.map opS O.reverse))):=qj.at_ z.mo
   generalize upd H z.ol (.lst (List.map opS O.reverse))=H1 at C1 k3 ⊢
   cases b with
   | false=>
    refine ⟨_,rfl,rfl,_,rfl,zr ?_⟩
    exact ⟨_,rfl,z.c,z.dx,_,rfl,C1.ins,qO _ _ _ _ _ _,Nat.zero_le _,fun p hp=>unb (by simp) H1 p hp k3 C1⟩
   | true=>
    refine ⟨_,rfl,rfl,_,rfl,zU ?_⟩
    refine ⟨_,rfl,z.c,z.dx,_,rfl,C1.ins,qO _ _ _ _ _ _,Nat.zero_le _,fun p hp=>⟨z,txt,i,Tk,O,false,en,.unhole,1,p,rfl,C1.same (qH hp),qd,C1.fresh hp,hT,fun H' k4 C4=>?_⟩⟩
    refine ⟨_,rfl,z.c,_,z.dx,_,rfl,C4.ins,T.c_Cutter,T.n_Cutter_in_literal,(by show 6<1000; decide),?_⟩
    exact k1 _ O rfl (((k3.trans (qj.new hp)).trans k4).trans (qj.at_ z.mc)) (C4.put (i+1) true en)
theorem qaY:qo ["self","sign"] ["self"] (qe z5):=⟨rfl,rfl,rfl,by decide +kernel,rfl,by decide +kernel,by decide +kernel⟩
theorem qfd (F:Fun K "cut_sign" "Cutter.cut_sign" z5 f fd) (T:Tx P w K mg a) (Gy:FnAt P w K mg base CX0 1 "bytes_of" ["written"] qck) (Ga:zS P w K mg base CX0 3 a.Cutter "add_token" ["self","kind","length","held"] (jT a K))
  (Gx:QA P w K mg base 2 a.WrongToken "WrongToken" ["self","place"] (spX a.WrongToken 2 true)):qB P w K mg base (CXR P w) 4 f fd ["self"] (qdd a K):=by
 refine F.okR qaY (fun vs H Q E h=>?_) (fun cdv A outer s H vs Q E hr h=>?_)
 ·obtain ⟨z,txt,i,Tk,O,lit,en,rfl,_⟩:=h; rfl
 ·obtain ⟨z,txt,i,Tk,O,lit,en,rfl,hC,hi,hT,kx,ko⟩:=h
  have hr1:qE 1 _:=hr.mono (by decide)
  refine ⟨_,qi (JU PassesOwn.leaving rfl (qdL (qT T.g_SIGNS)) (QS (i:=1) qaY.nd rfl (Or.inl rfl))
   (qf (qW (qK (qdR hr.units) (Jh qb7 (qk (pv 0) rfl) (QE (qk (pv 0) rfl)) (QE (Zh JV (qk (pv 0) rfl) (zG J0 (by rfl) T.b_len PySem.boot_len (qc (pv 1) qh))))) (qZ Gy hr1 qI (qc (pv 1) qh)) (qN _))
    (qi (qt (qY Ga T.c_Cutter hr qI (pv 0) (qc (pv 1) (qc (zG J0 (by rfl) T.b_len PySem.boot_len (qc (pv 1) qh)) (qc (zo qh) qh))))) (qf qiK)) zJ)))
   (qf (jD Gx hr (qc (qk (pv 0) rfl) qh))),?_⟩
  refine ⟨a.SIGNS,rfl,⟨_,T.t_SIGNS.sq _⟩,qb3 (K:=K) (a:=a.SIGNS) (xs:=Qu.map V.str) (fun j σ H'=>∃ v:Option V,σ = [some (.ref z.c),v]/\qD a K H' z txt i Tk O lit en/\qj z.M H H'/\∀ y x,y<j->Qu[y]? = some x->(txt.drop i).take x.cps.toList.length≠x.cps.toList)
   ⟨none,rfl,hC,qj.refl _ _,fun j x hj=>absurd hj (Nat.not_lt_zero _)⟩ (fun i σ H' _ _=>T.t_SIGNS.sq _) ?_ ?_⟩
  ·rintro j y σ H1 hj ⟨v,rfl,C1,k1,hno⟩
   obtain ⟨x,hx,rfl⟩:∃ x,Qu[j]? = some x/\V.str x=y:=by
    rw [List.getElem?_map] at hj
    exact Option.map_eq_some_iff.mp hj
   have hsz:x.cps.size<=1000:=qfc x (List.mem_of_getElem? hx)
   refine ⟨_,rfl,z.c,_,z.dx,_,_,rfl,C1.ins,T.c_Cutter,T.n_Cutter_text,Zb _ _ _ _ _ _,_,rfl,z.c,_,z.dx,_,_,rfl,C1.ins,T.c_Cutter,T.n_Cutter_place,qy _ _ _ _ _ _,_,rfl,_,rfl,z.c,_,z.dx,_,_,rfl,C1.ins,T.c_Cutter,T.n_Cutter_place,qy _ _ _ _ _ _,_,rfl,x,rfl,Nat.le_of_lt (QG hsz),_,_,rfl,rfl,_,rfl,z.a,_,rfl,C1.txt.sq,fun p hp=>?_⟩
   rw [show ((i:Int)+(x.length:Int))=(i:Int)+(x.cps.toList.length:Int) from rfl,qha txt _ hi]
   refine ⟨_,rfl,x,rfl,hsz,fun q hq=>qem (SqL.of (qH hq _ _ qd)) (SqL.of qd) ⟨_,rfl,?_⟩⟩
   have s2:=(qH (o:=.lst (nt ((txt.drop i).take x.cps.toList.length))) hp).trans (qH (o:=.lst (nt x.cps.toList)) hq)
   have C2:=C1.same s2
   have k2:=k1.trans (qj.of s2)
   refine jr (fun e=>?_) fun e=>?_
   ·have e:=of_decide_eq_true e
    have hs:=qif hx e hno
    refine ⟨_,rfl,z.c,z.dx,_,rfl,C2.ins,qO _ _ _ _ _ _,_,rfl,_,rfl,x,rfl,Nat.le_of_lt (QG hsz),Nat.zero_le _,fun r hr'=>⟨z,txt,i,Tk,O,lit,en,.sign x.cps.toList,x.cps.toList.length,r,?_,C2.same (qH hr'),qd,C2.fresh hr',hT,fun H5 k5 C5=>?_⟩⟩
    ·rfl
    ·exact ko _ hs H5 ((k2.trans (qj.new hr')).trans k5) C5
   ·refine ⟨_,rfl,C2,k2,fun y x' hy hx'=>?_⟩
    by_cases hyj:y=j
    ·subst hyj
     rw [hx] at hx'
     cases hx'
     exact fun z=>e (decide_eq_true z)
    ·exact hno y x' (by omega) hx'
  ·rintro σ H1 ⟨v,rfl,C1,k1,hno⟩
   refine ⟨_,rfl,z.c,_,z.dx,_,_,rfl,C1.ins,T.c_Cutter,T.n_Cutter_place,qy _ _ _ _ _ _,Qr T.x_WrongToken T.u_WrongToken T.n_WrongToken_number T.n_WrongToken_place ((kx (qhb fun y x hx=>?_)).on k1)⟩
   exact hno y x (by have:=(List.getElem?_eq_some_iff.mp hx).1; rw [List.length_map]; exact this) hx
end
end RT
end
section
namespace RT
open PySem PySem.Spec PyProof.Rows L2
open Vastoa (Mark Marks)
def over (txt:List Nat) (i:Nat):Bool:=match txt[i]? with
 | none=>true
 | some c=>if c=36 then decide (txt[i+1]? = some 123) else decide (c=34)
theorem qhc {txt:List Nat} {i:Nat} (h:txt[i]? = none):over txt i=true:=by unfold over; rw [h]
theorem qaq {txt:List Nat} {i c:Nat} (h:txt[i]? = some c):over txt i=if c=36 then decide (txt[i+1]? = some 123) else decide (c=34):=by unfold over; rw [h]
def qhd (a:Ad) (K:PySem.W.Frag):Sp:=fun vs H Q E=>∃ (z:CA) (txt:List Nat) (i:Nat) (T:Marks) (O:List Bool) (lit en:Bool),vs=[.ref z.c]/\qD a K H z txt i T O lit en/\∀ H',qM H H'->Q (.bl (over txt i)) H'
theorem qD.move {a:Ad} {K:PySem.W.Frag} {H H':Hp} {z:CA} {txt:List Nat} {i i':Nat} {T:Marks} {O:List Bool} {lit en lit' en':Bool} (h:qD a K H z txt i T O lit en)
  (hc:H' z.c=some (.ins a.Cutter z.dx (jj (.ref z.a) (.int i') (.ref z.tl) (.ref z.ol) (.bl lit') (.bl en')))) (k:qj (· = z.c) H H'):qD a K H' z txt i' T O lit' en':=by
 obtain ⟨as,h1,h2⟩:=h.tl
 refine ⟨hc,h.txt.keep (k.wide fun b e=>by rw [e]; exact z.mc),⟨as,k _ _ h1 (Ne.symm h.nct),qQ (fun x y q=>?_) h2⟩,k _ _ h.ol (Ne.symm h.nco),h.nto⟩
 obtain ⟨dx,ha,q1,q2,q3,q4⟩:=q
 exact ⟨dx,ha,k _ _ q1 (fun e=>q3 (.inl e)),k _ _ q2 (fun e=>q4 (.inl e)),q3,q4⟩
def qgf (a:Ad) (z:CA) (i:Nat) (lit en:Bool):HO:=.ins a.Cutter z.dx (jj (.ref z.a) (.int i) (.ref z.tl) (.ref z.ol) (.bl lit) (.bl en))
def qex (a:Ad) (K:PySem.W.Frag):Sp:=fun vs H Q E=>∃ (z:CA) (txt:List Nat) (i:Nat) (T:Marks) (O:List Bool) (lit en:Bool),vs=[.ref z.c]/\qD a K H z txt i T O lit en/\over txt i=false /\
 (∀ H' j x,qj (· = z.c) H H'->H' z.c=some (qgf a z j lit en)->i<j->j<=txt.length->Vastoa.gather i (txt.drop i)=(Vastoa.gather j (txt.drop j)).map (fun y=>(x::y.1,y.2.1,y.2.2))->Q (.int (x:Int)) H') /\
 (Vastoa.gather i (txt.drop i)=.error ⟨2,i⟩->XWM (· = z.c) K a.Refusal H 2 i E)
theorem qcl (c:Nat):(zR ZV (Sum.inl (c:Int))).getD .non=match Vastoa.unescape c with
  | some x=>V.int (x:Int)
  | none=>V.non:=by
 unfold Vastoa.unescape
 by_cases h1:c=34
 ·subst h1; decide +kernel
 by_cases h2:c=92
 ·subst h2; decide +kernel
 by_cases h3:c=110
 ·subst h3; decide +kernel
 by_cases h4:c=116
 ·subst h4; decide +kernel
 by_cases h5:c=36
 ·subst h5; decide +kernel
 rw [if_neg (by omega),if_neg h3,if_neg h4]
 have q1:¬ (34:Int)=c:=by omega
 have q2:¬ (92:Int)=c:=by omega
 have q3:¬ (110:Int)=c:=by omega
 have q4:¬ (116:Int)=c:=by omega
 have q5:¬ (36:Int)=c:=by omega
 simp [zR,ZV,q1,q2,q3,q4,q5]
theorem qjl:(zR ZV (Sum.inl (-1))).getD .non=.non:=by decide +kernel
section
variable {P:Program} {w:World} {K:PySem.W.Frag} {mg:Str->Option Value} {base:Heap} {f:Addr} {fd:FuncData} {a:Ad}
theorem Zy:qo ["self","byte"] ["self"] (qe zf):=⟨rfl,rfl,rfl,by decide +kernel,rfl,by decide +kernel,by decide +kernel⟩
theorem qbj (F:Fun K "is_piece_over" "Cutter.is_piece_over" zf f fd) (T:Tx P w K mg a) (Gb:zS P w K mg base CX0 1 a.Cutter "byte_at" ["self","place"] (Qh a K)):qB P w K mg base CX0 2 f fd ["self"] (qhd a K):=by
 refine F.ok Zy (fun vs H Q E h=>?_) (fun cdv A outer s H vs Q E hr h=>?_)
 ·obtain ⟨z,txt,i,Tk,O,lit,en,rfl,_⟩:=h; rfl
 ·obtain ⟨z,txt,i,Tk,O,lit,en,rfl,hC,k⟩:=h
  refine ⟨_,qi (qU (i:=1) Zy.nd rfl (Or.inl rfl) (qY Gb T.c_Cutter hr qI (pv 0) (qc (qk (pv 0) rfl) qh)))
   (qi (qW (qK jd (pv 1) (qT T.g_DOLLAR) (qN _)) (qf (zn (qb4 jd (qY Gb T.c_Cutter hr qI (pv 0) (qc (Zh JV (qk (pv 0) rfl) qx) qh)) (qT T.g_LEFT_BRACE) (qN _)))) zJ)
   (qf (zn (qg2 (pv 1) (qc (qT T.g_QUOTE) (qc (qT T.g_NOTHING) qh)))))),?_⟩
  refine ⟨_,rfl,z.c,z.dx,_,rfl,hC.ins,zj _ _ _ _ _ _,_,rfl,z.c,_,z.dx,_,_,rfl,hC.ins,T.c_Cutter,T.n_Cutter_place,qy _ _ _ _ _ _,z.c,txt,i,rfl,hC.text,?_⟩
  refine ⟨_,rfl,rfl,_,rfl,?_⟩
  rw [jn,zH]
  refine jr (fun e=>?_) fun e=>?_
  ·have e:=of_decide_eq_true e
   refine ⟨_,rfl,z.c,z.dx,_,rfl,hC.ins,zj _ _ _ _ _ _,_,rfl,z.c,_,z.dx,_,_,rfl,hC.ins,T.c_Cutter,T.n_Cutter_place,qy _ _ _ _ _ _,_,_,rfl,rfl,z.c,txt,i+1,rfl,hC.text,rfl,?_⟩
   rw [jn,zH]
   have:over txt i=decide ((123:Int)=byteAt txt (i+1)):=by
    cases h:txt[i]? with
    | none=>rw [jf h] at e; omega
    | some c=>
     rw [zp h] at e
     rw [qaq h,if_pos (by omega)]
     cases h2:txt[i+1]? with
     | none=>rw [jf h2]; decide
     | some d=>
      rw [zp h2]
      exact decide_eq_decide.mpr ⟨fun y=>by cases y; rfl,fun y=>by congr 1; omega⟩
   rw [this] at k
   exact k H (qM.refl H)
  ·have e:¬ (36:Int)=byteAt txt i:=fun y=>e (decide_eq_true y)
   refine ⟨_,rfl,rfl,fun H' s'=>?_⟩
   have:over txt i=inV (.int (byteAt txt i)) [V.int 34,V.int (-1)]:=by
    simp only [inV,List.any_cons,List.any_nil,eqV,zH,Bool.or_false]
    cases h:txt[i]? with
    | none=>rw [qhc h,jf h]; decide
    | some c=>
     rw [zp h] at e ⊢
     rw [qaq h,if_neg (by omega)]
     by_cases h34:c=34
     ·subst h34; decide
     ·rw [decide_eq_false h34,decide_eq_false (by omega),decide_eq_false (by omega)]; rfl
   have k:=k H' s'
   rw [this] at k
   exact k
theorem QX:qo ["self","byte"] ["self"] (qe zw):=⟨rfl,rfl,rfl,by decide +kernel,rfl,by decide +kernel,by decide +kernel⟩
theorem qcm (F:Fun K "gather_byte" "Cutter.gather_byte" zw f fd) (T:Tx P w K mg a) (Gb:zS P w K mg base CX0 1 a.Cutter "byte_at" ["self","place"] (Qh a K))
  (Gx:QA P w K mg base 2 a.WrongToken "WrongToken" ["self","place"] (spX a.WrongToken 2 true)):qB P w K mg base (CXR P w) 4 f fd ["self"] (qex a K):=by
 refine F.okR QX (fun vs H Q E h=>?_) (fun cdv A outer s H vs Q E hr h=>?_)
 ·obtain ⟨z,txt,i,Tk,O,lit,en,rfl,_⟩:=h; rfl
 ·obtain ⟨z,txt,i,Tk,O,lit,en,rfl,hC,ho,ko,kx⟩:=h
  have hr1:qE 1 _:=hr.mono (by decide)
  refine ⟨_,qi (qU (i:=1) QX.nd rfl (Or.inl rfl) (qY Gb T.c_Cutter hr1 qI (pv 0) (qc (qk (pv 0) rfl) qh)))
   (qi (qW (qK jd (pv 1) (qT T.g_BACKSLASH) (qN _))
    (qi (qU (i:=1) QX.nd rfl (Or.inl rfl) (qia (qT T.g_ESCAPES) (qY Gb T.c_Cutter hr1 qI (pv 0) (qc (Zh JV (qk (pv 0) rfl) qx) qh)) ⟨rfl,rfl,rfl,rfl⟩))
    (qi (qW (qdI (qjE (pv 1))) (qf (jD Gx hr (qc (qk (pv 0) rfl) qh))) zJ)
    (qi (jQ (pv 0) qx Zq) (qf (zn (pv 1)))))) zJ)
   (qi (qW (qdJ (qK qiv (pv 1) (qT T.g_BLANK) (qN _)) (qb1 (qc6 (pv 1) (qc (qT T.g_TAB) (qc (qT T.g_LINE_FEED) qh))))).pt
    (qf (jD Gx hr (qc (qk (pv 0) rfl) qh))) zJ)
   (qi (jQ (pv 0) qx Zq) (qf (zn (pv 1)))))),?_⟩
  have bad:∀ (H1:Hp),qM H H1->Vastoa.gather i (txt.drop i)=.error ⟨2,i⟩->XW K a.Refusal H1 2 i E:=fun H1 s1 hg=>(kx hg).on (qj.of s1)
  refine ⟨_,rfl,z.c,z.dx,_,rfl,hC.ins,zj _ _ _ _ _ _,_,rfl,z.c,_,z.dx,_,_,rfl,hC.ins,T.c_Cutter,T.n_Cutter_place,qy _ _ _ _ _ _,z.c,txt,i,rfl,hC.text,?_⟩
  obtain ⟨c,hc⟩:∃ c,txt[i]? = some c:=by
   cases h:txt[i]? with
   | none=>unfold over at ho; rw [h] at ho; cases ho
   | some c=>exact ⟨c,rfl⟩
  have hi:=CM.Qz hc
  rw [zp hc]
  refine ⟨_,rfl,rfl,_,rfl,?_⟩
  rw [jn,zH]
  refine jr (fun e=>?_) fun e=>?_
  ·have e:c=92:=by have:=of_decide_eq_true e; omega
   subst e
   refine ⟨a.ESCAPES,ZV,rfl,T.d_ESCAPES,_,rfl,z.c,z.dx,_,rfl,hC.ins,zj _ _ _ _ _ _,_,rfl,z.c,_,z.dx,_,_,rfl,hC.ins,T.c_Cutter,T.n_Cutter_place,qy _ _ _ _ _ _,_,_,rfl,rfl,z.c,txt,i+1,rfl,hC.text,Sum.inl (byteAt txt (i+1)),rfl,_,rfl,_,rfl,?_⟩
   have fin:(zR ZV (Sum.inl (byteAt txt (i+1)))).getD .non=.non->Vastoa.gather i (txt.drop i)=.error ⟨2,i⟩:=fun hn=>by
    cases h2:txt[i+1]? with
    | none=>exact CM.qe0 hc h2
    | some d=>
     rw [zp h2,qcl] at hn
     refine CM.qeg hc h2 ?_
     cases hu:Vastoa.unescape d with
     | none=>rfl
     | some x=>rw [hu] at hn; cases hn
   refine jr (fun q=>?_) fun q=>?_
   ·have q:=of_decide_eq_true q
    refine ⟨_,rfl,z.c,_,z.dx,_,_,rfl,hC.ins,T.c_Cutter,T.n_Cutter_place,qy _ _ _ _ _ _,?_⟩
    exact Qr T.x_WrongToken T.u_WrongToken T.n_WrongToken_number T.n_WrongToken_place (bad H (qM.refl H) (fin q))
   ·have q:¬ (zR ZV (Sum.inl (byteAt txt (i+1)))).getD .non=.non:=fun y=>q (decide_eq_true y)
    obtain ⟨d,x,h2,hu⟩:∃ d x,txt[i+1]? = some d/\Vastoa.unescape d=some x:=by
     cases h2:txt[i+1]? with
     | none=>rw [jf h2] at q; exact absurd qjl q
     | some d=>
      rw [zp h2,qcl] at q
      cases hu:Vastoa.unescape d with
      | none=>rw [hu] at q; exact absurd rfl q
      | some x=>exact ⟨d,x,rfl,hu⟩
    have ev:(zR ZV (Sum.inl (byteAt txt (i+1)))).getD .non=.int (x:Int):=by rw [zp h2,qcl,hu]
    rw [ev]
    refine ⟨_,rfl,z.c,_,z.dx,_,_,rfl,hC.ins,T.c_Cutter,T.n_Cutter_place,qy _ _ _ _ _ _,_,_,rfl,rfl,z.dx,_,hC.ins,(by show 6<1000; decide),?_⟩
    refine ⟨_,rfl,?_⟩
    exact ko _ (i+2) x (qj.at_ rfl) qd (by omega) (CM.Qz h2) (CM.qdn hc h2 hu)
  ·have e:¬ c=92:=fun y=>e (decide_eq_true (by omega))
   have ga:=CM.Js hc e
   have n1:¬ (c=34 \/ (c=36/\txt[i+1]? = some 123)):=by
    unfold over at ho
    rw [hc] at ho
    dsimp only at ho
    by_cases h36:c=36
    ·rw [if_pos h36] at ho
     have:=of_decide_eq_false ho
     rintro (y | ⟨_,y⟩)
     ·omega
     ·exact this y
    ·rw [if_neg h36] at ho
     have:=of_decide_eq_false ho
     rintro (y | ⟨y,_⟩)
     ·exact this y
     ·exact h36 y
   rw [if_neg n1] at ga
   have last:∀ H1,qM H H1->¬ (c<32/\c≠9/\c≠10)->Q (.int (c:Int)) (upd H1 z.c (qgf a z (i+1) lit en)):=fun H1 s1 hn=>by
    rw [if_neg hn] at ga
    exact ko _ (i+1) c ((qj.of s1).trans (qj.at_ rfl)) qd (by omega) (by omega) ga
   refine ⟨_,rfl,_,_,rfl,rfl,_,rfl,jr (fun h32=>?_) fun h32=>?_⟩
   ·have h32:c<32:=by have:=of_decide_eq_true h32; omega
    refine ⟨_,rfl,rfl,fun H1 s1=>⟨_,rfl,?_⟩⟩
    have C1:=hC.same s1
    have hin:inV (.int (c:Int)) [V.int 9,V.int 10]=decide (c=9 \/ c=10):=by
     simp only [inV,List.any_cons,List.any_nil,eqV,zH,Bool.or_false]
     rw [<- Bool.decide_or]
     exact decide_eq_decide.mpr (by omega)
    rw [hin]
    refine jr (fun q=>?_) fun q=>?_
    ·have q:¬ (c=9 \/ c=10):=by simpa using q
     rw [if_pos ⟨h32,fun y=>q (.inl y),fun y=>q (.inr y)⟩] at ga
     refine ⟨_,rfl,z.c,_,z.dx,_,_,rfl,C1.ins,T.c_Cutter,T.n_Cutter_place,qy _ _ _ _ _ _,?_⟩
     exact Qr T.x_WrongToken T.u_WrongToken T.n_WrongToken_number T.n_WrongToken_place (bad H1 s1 ga)
    ·have q:c=9 \/ c=10:=by
      by_cases y:c=9 \/ c=10
      ·exact y
      ·exact absurd (by rw [decide_eq_false y]; rfl) q
     refine ⟨_,rfl,z.c,_,z.dx,_,_,rfl,C1.ins,T.c_Cutter,T.n_Cutter_place,qy _ _ _ _ _ _,_,_,rfl,rfl,z.dx,_,C1.ins,(by show 6<1000; decide),_,rfl,?_⟩
     exact last H1 s1 (fun y=>by rcases q with q | q <;> simp [q] at y)
   ·have h32:¬ c<32:=fun y=>h32 (decide_eq_true (by omega))
    refine zr ⟨_,rfl,z.c,_,z.dx,_,_,rfl,hC.ins,T.c_Cutter,T.n_Cutter_place,qy _ _ _ _ _ _,_,_,rfl,rfl,z.dx,_,hC.ins,(by show 6<1000; decide),_,rfl,?_⟩
    exact last H (qM.refl H) (fun y=>h32 y.1)
end
end RT
end
section
namespace RT
open PySem PySem.Spec PyProof.Rows L2
open Vastoa (Mark Marks)
def qbX (a:Ad) (K:PySem.W.Frag):Sp:=fun vs H Q E=>∃ (z:CA) (txt:List Nat) (i:Nat) (T:Marks) (O:List Bool) (lit en:Bool),vs=[.ref z.c]/\qD a K H z txt i T O lit en/\i<=txt.length/\txt.length<=5000/\T.length<1000000 /\
 (∀ H' j g,qj z.M H H'->qD a K H' z txt j (T++CM.pieceOf i g) O lit en->i+g.length<=j->CM.qbc txt i g j->over txt j=true->Q .non H') /\
 (∀ p,Vastoa.gather i (txt.drop i)=.error ⟨2,p⟩->XWM z.M K a.Refusal H 2 p E)
theorem zW {n:Nat} (h:n<=1000000):n<sizeLine:=Nat.lt_of_le_of_lt h (by decide)
theorem XWM.wide {M M':Addr->Prop} {K:PySem.W.Frag} {S:Addr} {H:Hp} {n p:Int} {E:XK} (h:XWM M' K S H n p E) (i:∀ b,M b->M' b):XWM M K S H n p E:=fun C dx H' k x=>h C dx H' (k.wide i) x
theorem qjm (g:List Nat) (x:Nat):nt g++[.int (x:Int)]=nt (g++[x]):=by simp [nt]
section
variable {P:Program} {w:World} {K:PySem.W.Frag} {mg:Str->Option Value} {base:Heap} {f:Addr} {fd:FuncData} {a:Ad}
theorem Zz:qo ["self","first","held"] ["self"] (qe zP):=⟨rfl,rfl,rfl,by decide +kernel,rfl,by decide +kernel,by decide +kernel⟩
theorem qey (F:Fun K "cut_piece" "Cutter.cut_piece" zP f fd) (T:Tx P w K mg a) (Go:zS P w K mg base CX0 2 a.Cutter "is_piece_over" ["self"] (qhd a K)) (Gg:zS P w K mg base (CXR P w) 4 a.Cutter "gather_byte" ["self"] (qex a K))
  (Gt:qbd P w K mg base CX0 1 a.Token "Token" ["self","kind","place","held"] (qgb a)):qB P w K mg base (CXR P w) 5 f fd ["self"] (qbX a K):=by
 refine F.okR Zz (fun vs H Q E h=>?_) (fun cdv A outer s H vs Q E hr h=>?_)
 ·obtain ⟨z,txt,i,Tk,O,lit,en,rfl,_⟩:=h; rfl
 ·obtain ⟨z,txt,i,Tk,O,lit,en,rfl,hC,hi,hlen,hT,ko,kx⟩:=h
  have hr1:qE 1 _:=hr.mono (by decide)
  have hr2:qE 2 _:=hr.mono (by decide)
  refine ⟨_,qi (qU (i:=1) Zz.nd rfl (Or.inl rfl) (qk (pv 0) rfl))
   (qi (qU (i:=2) Zz.nd rfl (Or.inl rfl) (zo qh))
   (qi (Qa PassesOwn.leaving (qgs (QH (z7 Go T.c_Cutter hr2 qI (pv 0)))) (qf (qt (js PySem.F.plainAttrs_list PySem.F.slot_list_append PySem.F.type_list_append zA (pv 2) (qc (z7 Gg T.c_Cutter hr jB (pv 0)) qh)))))
   (qf (qW (Zp (pv 2) (by intro _; rfl)) (qf (qt (js PySem.F.plainAttrs_list PySem.F.slot_list_append PySem.F.type_list_append zA (qk (pv 0) rfl) (qc (QD Gt hr2 qI (qc zh (qc (pv 1) (qc (pv 2) qh)))) qh)))) zJ)))),?_⟩
  refine ⟨_,rfl,z.c,_,z.dx,_,_,rfl,hC.ins,T.c_Cutter,T.n_Cutter_place,qy _ _ _ _ _ _,?_⟩
  refine ⟨Nat.zero_le _,fun p hp=>?_⟩
  have np:=hC.fresh hp
  refine ⟨fun m σ H'=>σ = [some (.ref z.c),some (.int (i:Int)),some (.ref p)]/\∃ (j:Nat) (g:List Nat),H' z.c=some (qgf a z j lit en)/\qj (· = z.c) H H'/\H' p=some (.lst (nt g))/\i+g.length<=j/\CM.qbc txt i g j/\m=txt.length - j,
   ⟨_,rfl,i,[],?_,qj.new hp,qd,Nat.le_refl _,CM.qf3 hi,rfl⟩,?_⟩
  ·rw [qa (qg hC.ins hp)]; exact hC.ins
  rintro m σ H1 ⟨rfl,j,g,h1,k1,hp1,hgj,G1,rfl⟩
  have C1:=hC.move h1 k1
  refine ⟨_,rfl,z.c,z.dx,_,rfl,C1.ins,Z1 _ _ _ _ _ _,z,txt,j,Tk,O,lit,en,rfl,C1,fun H2 s2=>⟨_,rfl,?_⟩⟩
  have C2:=C1.same s2
  have k2:=k1.trans (qj.of s2)
  have hp2:=s2 _ _ hp1
  have pc:p≠z.c:=fun e=>np (by rw [e]; exact z.mc)
  cases ho:over txt j with
  | false=>
   refine zU ⟨_,fun σ' H' q=>q,?_⟩
   refine ⟨_,rfl,.inl ⟨rfl,_,SqL.of hp2⟩,_,rfl,z.c,z.dx,_,rfl,C2.ins,JL _ _ _ _ _ _,z,txt,j,Tk,O,lit,en,rfl,C2,ho,fun H3 j' x k3 h3 hjj hj' eg=>?_,fun hg=>?_⟩
   ·have hp3:=k3 _ _ hp2 pc
    have hj1:j'<=txt.length:=hj'
    refine ⟨p,_,_,rfl,rfl,hp3,by rw [jV]; exact zW (by omega),?_⟩
    rw [qjm]
    refine ⟨txt.length - j',by omega,rfl,j',g++[x],by rw [qa (Ne.symm pc)]; exact h3,fun b o e n=>?_,qd,by simp; omega,CM.qgV G1 hj' eg,rfl⟩
    rw [qa (qg e hp)]
    exact (k2.trans k3) b o e n
   ·have:=kx j (CM.qef G1 hg)
    exact (this.from (k2.wide fun b e=>by rw [e]; exact z.mc)).wide fun b e=>by rw [e]; exact z.mc
  | true=>
   have k2':qj z.M H H2:=k2.wide fun b e=>by rw [e]; exact z.mc
   refine zr ⟨_,rfl,_,.inl ⟨_,SqL.of hp2,rfl⟩,?_⟩
   cases g with
   | nil=>
    refine zr ?_
    refine ko H2 j [] k2' ?_ hgj G1 ho
    show qD a K H2 z txt j (Tk++[]) O lit en
    rw [List.append_nil]; exact C2
   | cons x g=>
    obtain ⟨as,t1,t2⟩:=C2.tl
    refine zU ⟨_,rfl,z.c,_,z.dx,_,_,rfl,C2.ins,T.c_Cutter,T.n_Cutter_tokens,ZW _ _ _ _ _ _,.inl ⟨rfl,_,SqL.of t1⟩,?_⟩
    refine ⟨_,rfl,_,rfl,?_⟩
    intro t dx ht hdx hne
    refine ⟨t,dx,_,_,_,rfl,qd,rfl,?_⟩
    rw [jm]
    have s3:qM H2 (upd (upd H2 dx (.own t)) t (.ins a.Token dx (tokF (.str "piece") (.int i) (.ref p)))):=fun b o e=>by rw [qa (qg e ht),qa (qg e hdx)]; exact e
    have C3:=C2.same s3
    have tk:jE a z.M (upd (upd H2 dx (.own t)) t (.ins a.Token dx (tokF (.str "piece") (.int i) (.ref p)))) t ⟨i,.piece (x::g)⟩:=⟨dx,p,qd,s3 _ _ hp2,C2.fresh ht,np⟩
    have t1':=s3 _ _ t1
    refine ⟨z.tl,_,_,rfl,rfl,t1',?_,?_⟩
    ·rw [List.length_map,Paired.length t2]; exact Nat.lt_trans hT (by decide)
    exact ko _ j (x::g) ((k2'.trans (qj.of s3)).trans (qj.at_ z.mt)) (C3.putT t1' tk) hgj G1 ho
end
end RT
end
section
namespace RT
open PySem PySem.Spec PyProof.Rows L2
open Vastoa (Mark Marks)
structure qhe (a:Ad) (K:PySem.W.Frag) (z:CA) (txt:List Nat) (H:Hp) (i:Nat) (Q:Hp->Prop) (E:XK):Prop where
 done:∀ H' T' O' i',qj z.M H H'->Vastoa.tokens txt=.ok T'->T'.length<=i'+1->i'<=txt.length->qD a K H' z txt i' T' O' false true->Q H'
 more:∀ H' n lit O' i' T',qj z.M H H'->CM.Here txt n lit O' i' T'->i<i'->T'.length<=i'->O'.length<=i'->qD a K H' z txt i' T' O' lit false->Q H'
 fail:∀ p:Nat,Vastoa.tokens txt=.error ⟨2,p⟩->XWM z.M K a.Refusal H 2 p E
def ZI (lit:Bool) (a:Ad) (K:PySem.W.Frag):Sp:=fun vs H Q E=>∃ (z:CA) (txt:List Nat) (n i:Nat) (T:Marks) (O:List Bool),vs=[.ref z.c]/\qD a K H z txt i T O lit false/\CM.Here txt n lit O i T/\T.length<=i/\O.length<=i/\txt.length<=5000 /\
 qhe a K z txt H i (Q .non) E
theorem qez (b:Bool) (O:List Bool):O.reverse.map opS++[opS b]=(b::O).reverse.map opS:=by simp
section
variable {P:Program} {w:World} {K:PySem.W.Frag} {mg:Str->Option Value} {base:Heap} {f:Addr} {fd:FuncData} {a:Ad}
theorem Z6:qo ["self","byte"] ["self"] (qe zu):=⟨rfl,rfl,rfl,by decide +kernel,rfl,by decide +kernel,by decide +kernel⟩
theorem qcn (F:Fun K "cut_literal" "Cutter.cut_literal" zu f fd) (T:Tx P w K mg a) (Gb:zS P w K mg base CX0 1 a.Cutter "byte_at" ["self","place"] (Qh a K)) (Gp:zS P w K mg base (CXR P w) 5 a.Cutter "cut_piece" ["self"] (qbX a K))
  (Ga:zS P w K mg base CX0 3 a.Cutter "add_token" ["self","kind","length","held"] (jT a K)) (Gx:QA P w K mg base 2 a.WrongToken "WrongToken" ["self","place"] (spX a.WrongToken 2 true)):qB P w K mg base (CXR P w) 6 f fd ["self"] (ZI true a K):=by
 refine F.okR Z6 (fun vs H Q E h=>?_) (fun cdv A outer s H vs Q E hr h=>?_)
 ·obtain ⟨z,txt,n,i,Tk,O,rfl,_⟩:=h; rfl
 ·obtain ⟨z,txt,n,i,Tk,O,rfl,hC,hH,hT,hO,hlen,R⟩:=h
  have hr1:qE 1 _:=hr.mono (by decide)
  have hr3:qE 3 _:=hr.mono (by decide)
  refine ⟨_,qi (qt (z7 Gp T.c_Cutter hr jB (pv 0)))
   (qi (qU (i:=1) Z6.nd rfl (Or.inl rfl) (qY Gb T.c_Cutter hr1 qI (pv 0) (qc (qk (pv 0) rfl) qh)))
   (qi (qW (qK jd (pv 1) (qT T.g_NOTHING) (qN _)) (qf (jD Gx hr3 (qc (qk (pv 0) rfl) qh))) zJ)
   (qi (qW (qK jd (pv 1) (qT T.g_QUOTE) (qN _)) (qf (qt (qY Ga T.c_Cutter hr3 qI (pv 0) (qc zh (qc qx (qc (zo qh) qh))))))
    (qi (qt (js PySem.F.plainAttrs_list PySem.F.slot_list_append PySem.F.type_list_append zA (qk (pv 0) rfl) (qc zh qh))) (qf (qt (qY Ga T.c_Cutter hr3 qI (pv 0) (qc zh (qc qx (qc (zo qh) qh))))))))
   (qf (zc (pv 0) Jc rfl))))),?_⟩
  have hle:=hH.le
  refine ⟨_,rfl,z.c,z.dx,_,rfl,hC.ins,qaQ _ _ _ _ _ _,z,txt,i,Tk,O,true,false,rfl,hC,hH.le,hlen,by omega,fun H1 j g k1 C1 hgj G1 ho=>?_,fun p hp=>R.fail p (CM.qfw hH hp)⟩
  have hj:=G1.1
  have hTl:(Tk++CM.pieceOf i g).length<=j:=by
   unfold CM.pieceOf
   cases g with
   | nil=>simp; omega
   | cons x g=>simp at hgj ⊢; omega
  refine ⟨_,rfl,z.c,z.dx,_,rfl,C1.ins,zj _ _ _ _ _ _,_,rfl,z.c,_,z.dx,_,_,rfl,C1.ins,T.c_Cutter,T.n_Cutter_place,qy _ _ _ _ _ _,z.c,txt,j,rfl,C1.text,?_⟩
  refine ⟨_,rfl,rfl,_,rfl,?_⟩
  rw [jn]
  cases e:txt[j]? with
  | none=>
   rw [jf e]
   refine zU ⟨_,rfl,z.c,_,z.dx,_,_,rfl,C1.ins,T.c_Cutter,T.n_Cutter_place,qy _ _ _ _ _ _,?_⟩
   exact Qr T.x_WrongToken T.u_WrongToken T.n_WrongToken_number T.n_WrongToken_place ((R.fail j (CM.qfw hH (CM.qef G1 (CM.qf4 e)))).on k1)
  | some c=>
   rw [zp e,show ((c:Int) == -1)=false from beq_eq_false_iff_ne.mpr (by omega)]
   refine zr ⟨_,rfl,rfl,_,rfl,?_⟩
   rw [jn,zH]
   have hjl:=CM.Qz e
   refine jr (fun q=>?_) fun q=>?_
   ·have q:c=34:=by have:=of_decide_eq_true q; omega
    subst q
    have ge:Vastoa.gather i (txt.drop i)=.ok (g,j,txt.drop j):=CM.qc3 G1 (by rw [CM.Js e (by decide),if_pos (.inl rfl)])
    have H2:=CM.qgW hH (by omega) ge e
    refine ⟨_,rfl,z.c,z.dx,_,rfl,C1.ins,qO _ _ _ _ _ _,Nat.zero_le _,fun p hp=>⟨z,txt,j,Tk++CM.pieceOf i g,O,true,false,.unquote,1,p,rfl,C1.same (qH hp),qd,C1.fresh hp,by omega,fun H3 k3 C3=>?_⟩⟩
    refine ⟨_,rfl,z.c,_,z.dx,_,rfl,C3.ins,T.c_Cutter,T.n_Cutter_in_literal,(by show 6<1000; decide),?_⟩
    refine R.more _ _ false O (j+1) _ (((k1.trans (qj.new hp)).trans k3).trans (qj.at_ z.mc)) H2 (by omega) ?_ (by omega) (C3.put (j+1) false false)
    rw [List.length_append]; show (Tk++CM.pieceOf i g).length+1<=_; omega
   ·have q:¬ c=34:=fun y=>q (decide_eq_true (by omega))
    rw [qaq e] at ho
    have h36:c=36:=by
     by_cases y:c=36
     ·exact y
     ·rw [if_neg y] at ho; exact absurd (of_decide_eq_true ho) q
    subst h36
    have e3:txt[j+1]? = some 123:=of_decide_eq_true ho
    have ge:Vastoa.gather i (txt.drop i)=.ok (g,j,txt.drop j):=CM.qc3 G1 (by rw [CM.Js e (by decide),if_pos (.inr ⟨rfl,e3⟩)])
    have H2:=CM.qh8 hH (by omega) ge e e3
    refine ⟨_,rfl,z.c,_,z.dx,_,_,rfl,C1.ins,T.c_Cutter,T.n_Cutter_opened,Q3 _ _ _ _ _ _,.inl ⟨rfl,_,SqL.of C1.ol⟩,z.ol,_,_,rfl,rfl,C1.ol,by rw [List.length_map,List.length_reverse]; exact zW (by omega),?_⟩
    rw [show (V.str (Str.ofString "hole"))=opS true from rfl,qez]
    have C2:=C1.putO (true::O)
    have k2:=k1.trans (qj.at_ (o:=.lst ((true::O).reverse.map opS)) z.mo)
    refine ⟨_,rfl,z.c,z.dx,_,rfl,C2.ins,qO _ _ _ _ _ _,Nat.zero_le _,fun p hp=>⟨z,txt,j,Tk++CM.pieceOf i g,true::O,true,false,.hole,2,p,rfl,C2.same (qH hp),qd,C2.fresh hp,by omega,fun H3 k3 C3=>?_⟩⟩
    refine ⟨_,rfl,z.c,_,z.dx,_,rfl,C3.ins,T.c_Cutter,T.n_Cutter_in_literal,(by show 6<1000; decide),?_⟩
    refine R.more _ _ false (true::O) (j+2) _ (((k2.trans (qj.new hp)).trans k3).trans (qj.at_ z.mc)) H2 (by omega) ?_ (by simp; omega) (C3.put (j+2) false false)
    rw [List.length_append]; show (Tk++CM.pieceOf i g).length+1<=_; omega
end
end RT
end
section
namespace RT
open PySem PySem.Spec PyProof.Rows L2
open Vastoa (Mark Marks)
theorem qjn (c:Nat):decide (65<=(c:Int)/\(c:Int)<=90 \/ 97<=(c:Int)/\(c:Int)<=122)=Vastoa.letter c:=by
 unfold Vastoa.letter
 rw [Bool.eq_iff_iff]
 simp
 omega
theorem qki (c:Nat):inV (.int (c:Int)) [V.int 32,V.int 9,V.int 10,V.int 13]=Vastoa.blank c:=by
 simp only [inV,List.any_cons,List.any_nil,eqV,zH,Bool.or_false]
 unfold Vastoa.blank
 rw [Bool.eq_iff_iff]
 simp
 omega
section
variable {P:Program} {w:World} {K:PySem.W.Frag} {mg:Str->Option Value} {base:Heap} {f:Addr} {fd:FuncData} {a:Ad}
theorem Z7:qo ["self","byte"] ["self"] (qe zt):=⟨rfl,rfl,rfl,by decide +kernel,rfl,by decide +kernel,by decide +kernel⟩
theorem qco (F:Fun K "cut_outside" "Cutter.cut_outside" zt f fd) (T:Tx P w K mg a) (Gb:zS P w K mg base CX0 1 a.Cutter "byte_at" ["self","place"] (Qh a K)) (Ga:zS P w K mg base CX0 3 a.Cutter "add_token" ["self","kind","length","held"] (jT a K))
  (Gl:FnAt P w K mg base CX0 1 "is_letter" ["byte"] Jy) (Gd:FnAt P w K mg base CX0 1 "is_digit" ["byte"] Z4) (Gc:zS P w K mg base CX0 2 a.Cutter "pass_comment" ["self"] (JH a K)) (Gn:zS P w K mg base (CXR P w) 4 a.Cutter "cut_name" ["self"] (qdc a K))
  (Gu:zS P w K mg base (CXR P w) 4 a.Cutter "cut_number" ["self"] (qaX a K)) (Gr:zS P w K mg base CX0 4 a.Cutter "cut_right_brace" ["self"] (qbW a K)) (Gs:zS P w K mg base (CXR P w) 4 a.Cutter "cut_sign" ["self"] (qdd a K)):qB P w K mg base (CXR P w) 6 f fd ["self"] (ZI false a K):=by
 refine F.okR Z7 (fun vs H Q E h=>?_) (fun cdv A outer s H vs Q E hr h=>?_)
 ·obtain ⟨z,txt,n,i,Tk,O,rfl,_⟩:=h; rfl
 ·obtain ⟨z,txt,n,i,Tk,O,rfl,hC,hH,hT,hO,hlen,R⟩:=h
  have hr1:qE 1 _:=hr.mono (by decide)
  have hr2:qE 2 _:=hr.mono (by decide)
  have hr3:qE 3 _:=hr.mono (by decide)
  have hr4:qE 4 _:=hr.mono (by decide)
  refine ⟨_,qi (qU (i:=1) Z7.nd rfl (Or.inl rfl) (qY Gb T.c_Cutter hr1 qI (pv 0) (qc (qk (pv 0) rfl) qh)))
   (qf (qW (qK jd (pv 1) (qT T.g_NOTHING) (qN _)) (qi (qt (qY Ga T.c_Cutter hr3 qI (pv 0) (qc zh (qc qx (qc (zo qh) qh))))) (qf (zc (pv 0) Jc rfl)))
   (qf (qW (qke (pv 1) (qc (qT T.g_BLANK) (qc (qT T.g_TAB) (qc (qT T.g_LINE_FEED) (qc (qT T.g_RETURN) qh))))) (qf (jQ (pv 0) qx Zq))
   (qf (qW (qK jd (pv 1) (qT T.g_HASH) (qN _)) (qf (qt (z7 Gc T.c_Cutter hr2 qI (pv 0))))
   (qf (qW (QH (qZ Gl hr1 qI (qc (pv 1) qh))) (qf (qt (z7 Gn T.c_Cutter hr4 jB (pv 0))))
   (qf (qW (QH (qZ Gd hr1 qI (qc (pv 1) qh))) (qf (qt (z7 Gu T.c_Cutter hr4 jB (pv 0))))
   (qf (qW (qK jd (pv 1) (qT T.g_QUOTE) (qN _)) (qi (qt (qY Ga T.c_Cutter hr3 qI (pv 0) (qc zh (qc qx (qc (zo qh) qh))))) (qf (zc (pv 0) Jc rfl)))
   (qf (qW (qK jd (pv 1) (qT T.g_LEFT_BRACE) (qN _)) (qi (qt (js PySem.F.plainAttrs_list PySem.F.slot_list_append PySem.F.type_list_append zA (qk (pv 0) rfl) (qc zh qh)))
    (qf (qt (qY Ga T.c_Cutter hr3 qI (pv 0) (qc zh (qc qx (qc (zo qh) qh)))))))
   (qf (qW (qK jd (pv 1) (qT T.g_RIGHT_BRACE) (qN _)) (qf (qt (z7 Gr T.c_Cutter hr4 qI (pv 0)))) (qf (qt (z7 Gs T.c_Cutter hr4 jB (pv 0)))))))))))))))))))),?_⟩
  have hle:=hH.le
  have hT6:Tk.length<1000000:=by omega
  refine ⟨_,rfl,z.c,z.dx,_,rfl,hC.ins,zj _ _ _ _ _ _,_,rfl,z.c,_,z.dx,_,_,rfl,hC.ins,T.c_Cutter,T.n_Cutter_place,qy _ _ _ _ _ _,z.c,txt,i,rfl,hC.text,?_⟩
  refine ⟨_,rfl,rfl,_,rfl,?_⟩
  rw [jn]
  cases e:txt[i]? with
  | none=>
   rw [jf e]
   refine zU ⟨_,rfl,z.c,z.dx,_,rfl,hC.ins,qO _ _ _ _ _ _,Nat.zero_le _,fun p hp=>⟨z,txt,i,Tk,O,false,false,.fin,0,p,rfl,hC.same (qH hp),qd,hC.fresh hp,hT6,fun H3 k3 C3=>?_⟩⟩
   refine ⟨_,rfl,z.c,_,z.dx,_,rfl,C3.ins,T.c_Cutter,T.n_Cutter_ended,(by show 6<1000; decide),?_⟩
   exact R.done _ _ O i (((qj.new hp).trans k3).trans (qj.at_ z.mc)) (CM.qj9 hH e) (by simp; omega) hle (C3.put i false true)
  | some c=>
   have hil:=CM.Qz e
   rw [zp e,show ((c:Int) == -1)=false from beq_eq_false_iff_ne.mpr (by omega)]
   refine zr ⟨_,rfl,rfl,fun H1 s1=>⟨_,rfl,?_⟩⟩
   have C1:=hC.same s1
   have k1:qj z.M H H1:=qj.of s1
   show if inV (.int (c:Int)) [V.int 32,V.int 9,V.int 10,V.int 13]=true then _ else _
   rw [qki]
   refine jr (fun hb=>?_) fun hb=>?_
   ·refine ⟨_,rfl,z.c,_,z.dx,_,_,rfl,C1.ins,T.c_Cutter,T.n_Cutter_place,qy _ _ _ _ _ _,_,_,rfl,rfl,z.dx,_,C1.ins,(by show 6<1000; decide),?_⟩
    exact R.more _ _ false O (i+1) Tk (k1.trans (qj.at_ z.mc)) (CM.qh4 hH e hb) (by omega) (by omega) (by omega) (C1.put (i+1) false false)
   have hb:Vastoa.blank c=false:=by simpa using hb
   refine ⟨_,rfl,rfl,_,rfl,?_⟩
   rw [jn,zH]
   refine jr (fun h35=>?_) fun h35=>?_
   ·have h35:c=35:=by have:=of_decide_eq_true h35; omega
    subst h35
    refine ⟨_,rfl,z.c,z.dx,_,rfl,C1.ins,Ju _ _ _ _ _ _,z,txt,i,Tk,O,false,false,rfl,C1,hle,fun H2 j k2 C2 r2 e2=>?_⟩
    have hij:i<j:=by
     rcases Nat.lt_or_ge i j with y | y
     ·exact y
     ·have:i=j:=Nat.le_antisymm r2.1 y
      subst this
      have:=e2 35 e
      omega
    have H2':=CM.qf1 (k:=j - i) hH e (by have:=r2.2.1; omega) (by omega) (fun x hx=>by
     obtain ⟨c,h1,h2⟩:=r2.2.2 (i+x) (by omega) (by omega)
     exact ⟨c,h1,by simpa using h2⟩) (fun x hx=>e2 x (by rw [show i+(j - i)=j by omega] at hx; exact hx))
    rw [show i+(j - i)=j by omega] at H2'
    exact R.more H2 _ false O j Tk (k1.trans k2) H2' hij (by omega) (by omega) C2
   have h35:¬ c=35:=fun y=>h35 (decide_eq_true (by omega))
   refine ⟨_,rfl,_,rfl,_,rfl,?_⟩
   rw [qjn]
   refine jr (fun hl=>?_) fun hl=>?_
   ·refine ⟨_,rfl,z.c,z.dx,_,rfl,C1.ins,qbg _ _ _ _ _ _,z,txt,i,Tk,O,false,false,rfl,C1,hle,hT6,fun j r2 e2=>?_⟩
    have hij:i<j:=by
     rcases Nat.lt_or_ge i j with y | y
     ·exact y
     ·have:i=j:=Nat.le_antisymm r2.1 y
      subst this
      have:=e2 c e
      unfold Vastoa.inner at this
      rw [hl] at this
      cases this
    have H2':=CM.qjd (k:=j - i) hH e hl (by have:=r2.2.1; omega) (by omega) (fun x hx=>r2.2.2 (i+x) (by omega) (by omega)) (fun x hx=>e2 x (by rw [show i+(j - i)=j by omega] at hx; exact hx))
    rw [show i+(j - i)=j by omega] at H2'
    refine ⟨fun hx=>(R.fail i (H2'.1 hx)).from k1,fun hx H2 k2 C2=>?_⟩
    exact R.more H2 _ false O j _ (k1.trans k2) (H2'.2 hx) hij (by simp; omega) (by omega) C2
   have hl:Vastoa.letter c=false:=by simpa using hl
   refine ⟨_,rfl,_,rfl,_,rfl,?_⟩
   show if qbV (c:Int)=true then _ else _
   rw [qan]
   refine jr (fun hd=>?_) fun hd=>?_
   ·refine ⟨_,rfl,z.c,z.dx,_,rfl,C1.ins,qag _ _ _ _ _ _,z,txt,i,Tk,O,false,false,rfl,C1,hle,hT6,fun j r2 e2=>?_⟩
    have hij:i<j:=by
     rcases Nat.lt_or_ge i j with y | y
     ·exact y
     ·have:i=j:=Nat.le_antisymm r2.1 y
      subst this
      have:=e2 c e
      rw [hd] at this
      cases this
    have H2':=CM.qgT (k:=j - i) hH e hd (by have:=r2.2.1; omega) (by omega) (fun x hx=>r2.2.2 (i+x) (by omega) (by omega)) (fun x hx=>e2 x (by rw [show i+(j - i)=j by omega] at hx; exact hx))
    rw [show i+(j - i)=j by omega] at H2'
    have e48:txt[i]? = some 48 ↔ c=48:=⟨fun y=>by rw [e] at y; exact Option.some.inj y,fun y=>by rw [e,y]⟩
    rw [e48]
    refine ⟨fun hx=>(R.fail i (H2'.1 hx)).from k1,fun hx H2 k2 C2=>?_⟩
    exact R.more H2 _ false O j _ (k1.trans k2) (H2'.2 hx) hij (by simp; omega) (by omega) C2
   have hd:Vastoa.digit c=false:=by simpa using hd
   refine ⟨_,rfl,rfl,_,rfl,?_⟩
   rw [jn,zH]
   refine jr (fun h34=>?_) fun h34=>?_
   ·have h34:c=34:=by have:=of_decide_eq_true h34; omega
    subst h34
    refine ⟨_,rfl,z.c,z.dx,_,rfl,C1.ins,qO _ _ _ _ _ _,Nat.zero_le _,fun p hp=>⟨z,txt,i,Tk,O,false,false,.quote,1,p,rfl,C1.same (qH hp),qd,C1.fresh hp,hT6,fun H3 k3 C3=>?_⟩⟩
    refine ⟨_,rfl,z.c,_,z.dx,_,rfl,C3.ins,T.c_Cutter,T.n_Cutter_in_literal,(by show 6<1000; decide),?_⟩
    exact R.more _ _ true O (i+1) _ (((k1.trans (qj.new hp)).trans k3).trans (qj.at_ z.mc)) (CM.qh6 hH e) (by omega) (by simp; omega) (by omega) (C3.put (i+1) true false)
   have h34:¬ c=34:=fun y=>h34 (decide_eq_true (by omega))
   refine ⟨_,rfl,rfl,_,rfl,?_⟩
   rw [jn,zH]
   refine jr (fun h123=>?_) fun h123=>?_
   ·have h123:c=123:=by have:=of_decide_eq_true h123; omega
    subst h123
    refine ⟨_,rfl,z.c,_,z.dx,_,_,rfl,C1.ins,T.c_Cutter,T.n_Cutter_opened,Q3 _ _ _ _ _ _,.inl ⟨rfl,_,SqL.of C1.ol⟩,z.ol,_,_,rfl,rfl,C1.ol,by rw [List.length_map,List.length_reverse]; exact zW (by omega),?_⟩
    rw [show (V.str (Str.ofString "brace"))=opS false from rfl,qez]
    have C2:=C1.putO (false::O)
    have k2:=k1.trans (qj.at_ (o:=.lst ((false::O).reverse.map opS)) z.mo)
    refine ⟨_,rfl,z.c,z.dx,_,rfl,C2.ins,qO _ _ _ _ _ _,Nat.zero_le _,fun p hp=>⟨z,txt,i,Tk,false::O,false,false,.sign [123],1,p,by rw [qjk]; rfl,C2.same (qH hp),qd,C2.fresh hp,hT6,fun H3 k3 C3=>?_⟩⟩
    exact R.more _ _ false (false::O) (i+1) _ ((k2.trans (qj.new hp)).trans k3) (CM.qh7 hH e) (by omega) (by simp; omega) (by simp; omega) C3
   have h123:¬ c=123:=fun y=>h123 (decide_eq_true (by omega))
   refine ⟨_,rfl,rfl,_,rfl,?_⟩
   rw [jn,zH]
   refine jr (fun h125=>?_) fun h125=>?_
   ·have h125:c=125:=by have:=of_decide_eq_true h125; omega
    subst h125
    refine ⟨_,rfl,z.c,z.dx,_,rfl,C1.ins,ZD _ _ _ _ _ _,z,txt,i,Tk,O,false,rfl,C1,hT6,fun H2 O' eO k2 C2=>?_,fun H2 hO' k2 C2=>?_⟩
    ·subst eO
     exact R.more H2 _ true O' (i+1) _ (k1.trans k2) (CM.qgU hH e) (by omega) (by simp; omega) (by simp at hO; omega) C2
    ·exact R.more H2 _ false (O.drop 1) (i+1) _ (k1.trans k2) (CM.qf2 hH e hO') (by omega) (by simp; omega) (by simp; omega) C2
   have h125:¬ c=125:=fun y=>h125 (decide_eq_true (by omega))
   have hoth:CM.other c=true:=by simp [CM.other,hb,h35,hl,hd,h34,h123,h125]
   obtain ⟨s1',s2'⟩:=CM.qje hH e hoth
   refine ⟨_,rfl,z.c,z.dx,_,rfl,C1.ins,qbh _ _ _ _ _ _,z,txt,i,Tk,O,false,false,rfl,C1,hle,hT6,fun hx=>(R.fail i (s1' hx)).from k1,fun x hx H2 k2 C2=>?_⟩
   have h0:=(CM.qbJ hx).2.1
   exact R.more H2 _ false O (i+x.length) _ (k1.trans k2) (s2' x hx) (by omega) (by simp; omega) (by omega) C2
end
end RT
end
section
namespace RT
open PySem PySem.Spec PyProof.Rows L2
open Vastoa (Mark Marks)
def qar (a:Ad) (K:PySem.W.Frag):Sp:=fun vs H Q E=>∃ (c dx ta:Addr) (txt:List Nat),vs=[.ref c,.ref ta]/\H c=some (.ins a.Cutter dx [])/\SqL K H ta (nt txt) /\
 ∀ H' z,z.c=c->H z.tl=none->H z.ol=none->(∀ b o,H b=some o->b≠c->H' b=some o)->qD a K H' z txt 0 [] [] false false->Q .non H'
abbrev M0:Addr->Prop:=fun _=>False
def qiE (a:Ad) (K:PySem.W.Frag):Sp:=fun vs H Q E=>∃ (ta:Addr) (txt:List Nat),vs=[.ref ta]/\SqL K H ta (nt txt)/\txt.length<=5000 /\
 (∀ H' p as T,qM H H'->Vastoa.tokens txt=.ok T->T.length<=txt.length+1->H' p=some (.lst (as.map V.ref))->Paired (jE a M0 H') as T->Q (.ref p) H') /\
 (∀ p:Nat,Vastoa.tokens txt=.error ⟨2,p⟩->XW K a.Refusal H 2 p E)
theorem jE.free {a:Ad} {M:Addr->Prop} {H:Hp} {t:Addr} {m:Mark} (h:jE a M H t m):jE a M0 H t m:=by
 obtain ⟨dx,ha,h1,h2,_,_⟩:=h
 exact ⟨dx,ha,h1,h2,id,id⟩
section
variable {P:Program} {w:World} {K:PySem.W.Frag} {mg:Str->Option Value} {base:Heap} {f:Addr} {fd:FuncData} {a:Ad}
theorem qcp:qo ["self","text"] ["self","text"] (qe jw):=⟨rfl,rfl,rfl,by decide +kernel,rfl,by decide +kernel,by decide +kernel⟩
theorem qcq (F:Fun K "__init__" "Cutter.__init__" jw f fd) (T:Tx P w K mg a):qB P w K mg base CX0 1 f fd ["self","text"] (qar a K):=by
 refine F.ok qcp (fun vs H Q E h=>?_) (fun cdv A outer s H vs Q E hr h=>?_)
 ·obtain ⟨c,dx,ta,txt,rfl,_⟩:=h; rfl
 ·obtain ⟨c,dx,ta,txt,rfl,hc,ht,k⟩:=h
  refine ⟨_,qi (zc (pv 0) (pv 1) rfl) (qi (zc (pv 0) qx rfl) (qi (zc (pv 0) (zo qh) rfl) (qi (zc (pv 0) (zo qh) rfl) (qi (zc (pv 0) Jc rfl) (qf (zc (pv 0) Jc rfl)))))),?_⟩
  refine ⟨_,rfl,_,rfl,c,_,dx,_,rfl,hc,T.c_Cutter,T.n_Cutter_text,(by show 0<1000; decide),?_⟩
  refine ⟨_,rfl,c,_,dx,_,rfl,qd,T.c_Cutter,T.n_Cutter_place,(by show 1<1000; decide),?_⟩
  rw [jm]
  refine ⟨Nat.zero_le _,fun tl htl=>⟨_,rfl,c,_,dx,_,rfl,(qa (qg qd htl)).trans qd,T.c_Cutter,T.n_Cutter_tokens,(by show 2<1000; decide),?_⟩⟩
  have ctl:c≠tl:=qg qd htl
  rw [qa (Ne.symm ctl)] at htl
  refine ⟨Nat.zero_le _,fun ol hol=>⟨_,rfl,c,_,dx,_,rfl,(qa (qg qd hol)).trans qd,T.c_Cutter,T.n_Cutter_opened,(by show 3<1000; decide),?_⟩⟩
  have col:c≠ol:=qg qd hol
  rw [qa (Ne.symm col)] at hol
  have tlol:tl≠ol:=qg qd hol
  rw [qa (Ne.symm tlol),qa (Ne.symm col)] at hol
  refine ⟨_,rfl,c,_,dx,_,rfl,qd,T.c_Cutter,T.n_Cutter_in_literal,(by show 4<1000; decide),?_⟩
  refine ⟨_,rfl,c,_,dx,_,rfl,qd,T.c_Cutter,T.n_Cutter_ended,(by show 5<1000; decide),?_⟩
  rw [jm,jm]
  have kk:∀ b o,H b=some o->b≠c->upd (upd (upd (upd (upd H c (.ins a.Cutter dx (qL "place" (.int 0) (qL "text" (.ref ta) [])))) tl (.lst [])) c (.ins a.Cutter dx (qL "tokens" (.ref tl) (qL "place" (.int 0) (qL "text" (.ref ta) []))))) ol (.lst [])) c (.ins a.Cutter dx (jj (.ref ta) (.int 0) (.ref tl) (.ref ol) (.bl false) (.bl false))) b=some o:=fun b o e n=>by
   rw [qa n,qa (qg e hol),qa n,qa (qg e htl),qa n]; exact e
  refine k _ ⟨c,dx,ta,tl,ol⟩ rfl htl hol kk ⟨qd,?_,⟨[],?_,.nil⟩,?_,tlol⟩
  ·have nM:∀ o,H ta=some o->(∀ C d fs,o≠.ins C d fs)->¬ CA.M ⟨c,dx,ta,tl,ol⟩ ta:=fun o e ni z=>by
    rcases z with z | z | z
    ·have z:ta=c:=z
     rw [z,hc] at e; cases e; exact ni _ _ _ rfl
    ·exact qg e htl z
    ·exact qg e hol z
   have ne:∀ o,H ta=some o->(∀ C d fs,o≠.ins C d fs)->ta≠c:=fun o e ni z=>nM o e ni (.inl z)
   rcases ht with (q | ⟨o,q⟩) | q
   ·exact .inl ⟨.inl (kk _ _ q (ne _ q (fun _ _ _ z=>by cases z))),nM _ q (fun _ _ _ z=>by cases z)⟩
   ·exact .inl ⟨.inr ⟨o,kk _ _ q (ne _ q (fun _ _ _ z=>by cases z))⟩,nM _ q (fun _ _ _ z=>by cases z)⟩
   ·exact .inr q
  ·show upd _ c _ tl=_
   rw [qa (Ne.symm ctl),qa tlol,qa (Ne.symm ctl),qd]; rfl
  ·show upd _ c _ ol=_
   rw [qa (Ne.symm col),qd]; rfl
theorem qhf:qo ["text","cutter"] ["text"] (qe qaL):=⟨rfl,rfl,rfl,by decide +kernel,rfl,by decide +kernel,by decide +kernel⟩
theorem qkj (F:Fun K "cut" "cut" qaL f fd) (T:Tx P w K mg a) (Gm:qbd P w K mg base CX0 1 a.Cutter "Cutter" ["self","text"] (qar a K)) (Gl:zS P w K mg base (CXR P w) 6 a.Cutter "cut_literal" ["self"] (ZI true a K))
  (Go:zS P w K mg base (CXR P w) 6 a.Cutter "cut_outside" ["self"] (ZI false a K)):qB P w K mg base (CXR P w) 7 f fd ["text"] (qiE a K):=by
 refine F.okR qhf (fun vs H Q E h=>?_) (fun cdv A outer s H vs Q E hr h=>?_)
 ·obtain ⟨ta,txt,rfl,_⟩:=h; rfl
 ·obtain ⟨ta,txt,rfl,ht,hlen,ko,kx⟩:=h
  have hr2:qE 2 _:=hr.mono (by decide)
  refine ⟨_,qi (qU (i:=1) qhf.nd rfl (Or.inl rfl) (QD Gm hr2 qI (qc (pv 0) qh)))
   (qi (Qa PassesOwn.leaving (qgs (QH (qk (pv 1) rfl))) (qf (qW (QH (qk (pv 1) rfl)) (qf (qt (z7 Gl T.c_Cutter hr jB (pv 1)))) (qf (qt (z7 Go T.c_Cutter hr jB (pv 1)))))))
   (qf (zn (qk (pv 1) rfl)))),?_⟩
  refine ⟨_,rfl,?_⟩
  intro c dx hc hdx hne
  have s1:qM H (upd (upd H dx (.own c)) c (.ins a.Cutter dx [])):=fun b o e=>by rw [qa (qg e hc),qa (qg e hdx)]; exact e
  refine ⟨c,dx,ta,txt,rfl,qd,s1.seq ht,fun H1 z ez htl hol k1 C1=>⟨rfl,?_⟩⟩
  have sub:∀ b o,H b=some o->¬ z.M b:=fun b o e y=>by
   have e1:=s1 b o e
   rcases y with y | y | y
   ·rw [y,ez] at e; rw [hc] at e; cases e
   ·rw [y,htl] at e1; cases e1
   ·rw [y,hol] at e1; cases e1
  have sH:qM H H1:=fun b o e=>k1 b o (s1 b o e) (qg e hc)
  have toS:∀ H2,qj z.M H1 H2->qM H H2:=fun H2 k b o e=>k b o (sH b o e) (sub b o e)
  refine ⟨fun m σ H2=>σ = [some (.ref ta),some (.ref z.c)]/\qj z.M H1 H2/\((∃ n lit O i Tk,qD a K H2 z txt i Tk O lit false/\CM.Here txt n lit O i Tk/\Tk.length<=i/\O.length<=i/\m=txt.length+1 - i) \/
   (∃ O i Tk,qD a K H2 z txt i Tk O false true/\Vastoa.tokens txt=.ok Tk/\Tk.length<=txt.length+1/\m=0)),⟨_,?_,qj.refl _ _,.inl ⟨_,false,[],0,[],C1,CM.start txt,Nat.le_refl _,Nat.le_refl _,rfl⟩⟩,?_⟩
  ·rw [ez]; rfl
  rintro m σ H2 ⟨rfl,k2,⟨n,lit,O,i,Tk,C2,hH,hT,hO,rfl⟩ | ⟨O,i,Tk,C2,hk,hl,rfl⟩⟩
  ·refine ⟨_,rfl,z.c,_,z.dx,_,_,rfl,C2.ins,T.c_Cutter,T.n_Cutter_ended,qbP _ _ _ _ _ _,_,rfl,zU ⟨_,fun σ' H' q=>q,?_⟩⟩
   refine ⟨_,rfl,z.c,_,z.dx,_,_,rfl,C2.ins,T.c_Cutter,T.n_Cutter_in_literal,qbO _ _ _ _ _ _,_,rfl,?_⟩
   have hle:=hH.le
   have res:qhe a K z txt H2 i (fun H'=>∃ m',m'<txt.length+1 - i/\([some (V.ref ta),some (.ref z.c)]=[some (V.ref ta),some (.ref z.c)]/\qj z.M H1 H'/\((∃ n lit O i Tk,qD a K H' z txt i Tk O lit false/\CM.Here txt n lit O i Tk/\Tk.length<=i/\O.length<=i/\m'=txt.length+1 - i) \/
    (∃ O i Tk,qD a K H' z txt i Tk O false true/\Vastoa.tokens txt=.ok Tk/\Tk.length<=txt.length+1/\m'=0)))) E:=by
    refine ⟨fun H' T' O' i' k3 e3 l3 b3 C3=>⟨0,by omega,rfl,k2.trans k3,.inr ⟨O',i',T',C3,e3,by omega,rfl⟩⟩,fun H' n' lit' O' i' T' k3 h3 b3 l3 o3 C3=>⟨txt.length+1 - i',?_,rfl,k2.trans k3,.inl ⟨n',lit',O',i',T',C3,h3,l3,o3,rfl⟩⟩,fun p hp=>?_⟩
    ·have:=h3.le; omega
    ·exact fun C dx' H' k3 x=>kx p hp C dx' H' (toS H' (k2.trans k3)) x
   cases lit with
   | true=>exact zU ⟨_,rfl,z.c,z.dx,_,rfl,C2.ins,JK _ _ _ _ _ _,z,txt,n,i,Tk,O,rfl,C2,hH,hT,hO,hlen,res⟩
   | false=>exact zr ⟨_,rfl,z.c,z.dx,_,rfl,C2.ins,JJ _ _ _ _ _ _,z,txt,n,i,Tk,O,rfl,C2,hH,hT,hO,hlen,res⟩
  ·refine ⟨_,rfl,z.c,_,z.dx,_,_,rfl,C2.ins,T.c_Cutter,T.n_Cutter_ended,qbP _ _ _ _ _ _,_,rfl,zr ?_⟩
   refine ⟨_,rfl,z.c,_,z.dx,_,_,rfl,C2.ins,T.c_Cutter,T.n_Cutter_tokens,ZW _ _ _ _ _ _,?_⟩
   obtain ⟨as,t1,t2⟩:=C2.tl
   exact ko H2 z.tl as Tk (toS H2 k2) hk hl t1 (qQ (fun x y q=>q.free) t2)
end
end RT
end
section
namespace RT
open PySem PySem.Spec PyProof.Rows L2
open Vastoa (Mark Marks)
abbrev qdC:=Vastoa.Kind
abbrev qeA:=RM.Act
open RM (Part Sym qw kd held)
def QQ:Part->Str
 | .EXPR=> "EXPR" | .FORM=> "FORM" | .FUNCTION=> "FUNCTION" | .FIELDS=> "FIELDS" | .PARAMS=> "PARAMS" | .GIVEN=> "GIVEN" | .MPARAMS=> "MORE-PARAMS" | .BINDS=> "BINDS" | .BOUND=> "BOUND" | .OR=> "OR" | .MOR=> "MORE-OR"
 | .AND=> "AND" | .MAND=> "MORE-AND" | .NOT=> "NOT" | .CMP=> "CMP" | .MCMP=> "MORE-CMP" | .UPD=> "UPD" | .MUPD=> "MORE-UPD" | .JOIN=> "JOIN" | .MJOIN=> "MORE-JOIN" | .SUM=> "SUM" | .MSUM=> "MORE-SUM" | .PROD=> "PROD"
 | .MPROD=> "MORE-PROD" | .NEG=> "NEG" | .APP=> "APP" | .ARGS=> "ARGUMENTS" | .ARG=> "ARGUMENT" | .SEL=> "SEL" | .DOTS=> "DOTS" | .MDOTS=> "MORE-DOTS" | .DFLT=> "DEFAULT" | .ATOM=> "ATOM" | .PIECES=> "PIECES"
 | .LIST=> "LIST" | .MLIST=> "MORE-LIST"
def kindS:qdC->Str
 | .piece=> "piece" | .num=> "num" | .yes=> "yes" | .no=> "no" | .none=> "none" | .name=> "name" | .text=> "text" | .list=> "list" | .record=> "record" | .recur=> "recur" | .get=> "get" | .app=> "app" | .neg=> "neg"
 | .not=> "not" | .has=> "has" | .fn=> "fn" | .fields=> "fields" | .openFields=> "fields.." | .param=> "param" | .letIn=> "let" | .cond=> "if" | .must=> "must"
 | .op .or=> "or" | .op .and=> "and" | .op .eq=> "==" | .op .ne=> "!=" | .op .lt=> "<" | .op .le=> "<=" | .op .upd=> "//" | .op .join=> "++" | .op .add=> "+" | .op .sub=> "-" | .op .mul=> "*"
def QR:qeA->Str
 | .begin=> "begin" | .take=> "take" | .label=> "label" | .fresh=> "fresh" | .enter=> "enter" | .leave=> "leave"
 | .fin k=>kindS k
def jG:Sym->Str
 | .p x=>QQ x
 | .t k=>ju k
 | .a x=>strOf (64::(QR x).cps.toList)
def allParts:List Part:=[.EXPR,.FORM,.FUNCTION,.FIELDS,.PARAMS,.GIVEN,.MPARAMS,.BINDS,.BOUND,.OR,.MOR,.AND,.MAND,.NOT,.CMP,.MCMP,.UPD,.MUPD,.JOIN,.MJOIN,.SUM,.MSUM,.PROD,.MPROD,.NEG,.APP,.ARGS,.ARG,.SEL,.DOTS,.MDOTS,.DFLT,.ATOM,.PIECES,.LIST,.MLIST]
def allKinds:List qdC:=[.piece,.num,.yes,.no,.none,.name,.text,.list,.record,.recur,.get,.app,.neg,.not,.has,.fn,.fields,.openFields,.param,.letIn,.cond,.must,.op .or,.op .and,.op .eq,.op .ne,.op .lt,.op .le,.op .upd,.op .join,.op .add,.op .sub,.op .mul]
def jp:List qam:=[.name [],.num [],.piece [],.quote,.unquote,.hole,.unhole,.fin]++Vastoa.reserved.map .word++([[123],[125]]++Vastoa.signs2++Vastoa.signs1).map .sign
theorem Qi (x:Part):x∈allParts:=by cases x <;> decide
theorem qhg (k:qdC):k∈allKinds:=by
 cases k with
 | op o=>cases o <;> decide
 | _=>decide
theorem Jz {t:qam} (h:CM.Q2 t=true):kd t∈jp:=by
 unfold jp
 cases t with
 | word x=>
  have h:Vastoa.reserved.contains x=true:=h
  exact List.mem_append_left _ (List.mem_append_right _ (List.mem_map.mpr ⟨x,List.contains_iff_mem.mp h,rfl⟩))
 | sign x=>
  have h:([[123],[125]]++Vastoa.signs2++Vastoa.signs1).contains x=true:=h
  exact List.mem_append_right _ (List.mem_map.mpr ⟨x,List.contains_iff_mem.mp h,rfl⟩)
 | _=>exact List.mem_append_left _ (List.mem_append_left _ (by simp [kd]))
theorem qcr (t:qam):ju (kd t)=ju t:=by cases t <;> rfl
theorem qig:∀ x∈jp,∀ y∈jp,ju x=ju y->x=y:=by decide +kernel
def JA:Sym->Bool
 | .t k=>jp.contains k
 | _=>true
theorem qhh:∀ x∈allParts,∀ k∈jp,(qw x k).all JA=true:=by decide +kernel
def Zi (x k:Str):Bool:=if x = "ARGUMENT" then qbN.contains k else decide (x=k)
def j6 (k:Str):List Str->List Str->List Str
 | [],last=>last
 | r::rs,_=>match Txt.words r with
  | []=>j6 k rs []
  | x::l=>if Zi x k then x::l else j6 k rs (x::l)
def rowsOf (x:Part):List Str:=(Qm.lookup (QQ x)).getD []
end RT
namespace RT
open PySem PySem.Spec PyProof.Rows L2
open Vastoa (Mark Marks)
open RM (Part Sym qw kd held)
theorem qgg:∀ x∈allParts,∀ k∈jp,j6 (ju k) (rowsOf x) []=(qw x k).map jG:=by decide +kernel
def qgh:List Str:=Qm.map (·.1)
theorem qeB:∀ x∈allParts,QQ x∈qgh:=by decide +kernel
theorem qjo:∀ k∈jp,ju k∉qgh:=by decide +kernel
def Z8:List qeA:=[.begin,.take,.label,.fresh,.enter,.leave]++allKinds.map .fin
theorem JB (x:qeA):x∈Z8:=by
 cases x with
 | fin k=>exact List.mem_append_right _ (List.mem_map.mpr ⟨k,qhg k,rfl⟩)
 | _=>exact List.mem_append_left _ (by simp)
theorem qjp:∀ x∈Z8,jG (.a x)∉qgh:=by decide +kernel
theorem qkk:∀ x∈Z8,Txt.startswith (jG (.a x)) "@" = true/\qdZ (jG (.a x)) (some 1) none=QR x/\(jG (.a x)).length<=1000:=by decide +kernel
theorem qkl:∀ k∈jp,Txt.startswith (ju k) "@" = false:=by decide +kernel
theorem qjq:∀ x∈Z8,∀ y∈Z8,QR x=QR y->x=y:=by decide +kernel
theorem qgi:∀ x∈allParts,∀ r∈rowsOf x,r.length<=1000:=by decide +kernel
theorem qih:∀ x∈allParts,(QQ x,rowsOf x)∈Qm:=by decide +kernel
theorem qcs (g:Str->Addr) (y:Str):∀ l:List (Str × List Str),zR (l.map fun r=>((Sum.inr r.1:Key),V.ref (g r.1))) (Sum.inr y)=if y∈l.map (·.1) then some (V.ref (g y)) else none
 | []=>rfl
 | r::l=>by
  by_cases h:r.1=y
  ·subst h
   rw [List.map_cons,Zs rfl,if_pos (by simp)]
  ·rw [List.map_cons,Zt (fun z=>h (Sum.inr.inj z)),qcs g y l]
   by_cases h2:y∈l.map (·.1)
   ·rw [if_pos h2,if_pos (by rw [List.map_cons]; exact List.mem_cons_of_mem _ h2)]
   ·rw [if_neg h2,if_neg (by rw [List.map_cons,List.mem_cons]; exact fun z=>z.elim (fun z=>h z.symm) h2)]
end RT
end
section
namespace RT
open PySem PySem.Spec PyProof.Rows L2
open Vastoa (Mark Marks)
open RM (Part Sym qw kd held)
def qhi:Sp:=fun vs H Q E=>∃ x k:Str,vs=[.str x,.str k]/\Q (.bl (Zi x k)) H
def qeC (a:Ad):Sp:=fun vs H Q E=>∃ (x:Part) (k:qam),vs=[.str (QQ x),.str (ju k)]/\k∈jp/\∀ H' p,qM H H'->H p=none->H' p=some (.lst (((qw x k).map jG).map V.str))->Q (.ref p) H'
theorem qde:∀ l:List Str,(l.map V.str).all jR=true
 | []=>rfl
 | _::r=>by rw [List.map_cons,List.all_cons,qde r]; rfl
theorem qfC (k:Str):∀ l:List Str,inV (.str k) (l.map V.str)=l.contains k
 | []=>rfl
 | x::r=>by
  have ih:=qfC k r
  unfold inV at ih ⊢
  rw [List.map_cons,List.any_cons,ih,List.contains_cons]
  congr 1
  show (x == k)=(k == x)
  by_cases h:x=k
  ·subst h; rfl
  ·rw [beq_eq_false_iff_ne.mpr h,beq_eq_false_iff_ne.mpr (fun z=>h z.symm)]
theorem qfe {k:Str} {r:Str} {x:Str} {l:List Str} (hw:Txt.words r=x::l) (hf:Zi x k=true) (rs last:List Str):j6 k (r::rs) last=x::l:=by
 unfold j6; rw [hw]; dsimp only; rw [if_pos hf]
theorem qdf {k:Str} {r:Str} (h:∀ x l,Txt.words r=x::l->Zi x k=false) (rs last:List Str):j6 k (r::rs) last=j6 k rs (Txt.words r):=by
 conv=>lhs; unfold j6
 cases hw:Txt.words r with
 | nil=>rfl
 | cons x l=>
  dsimp only
  rw [if_neg (by rw [h x l hw]; decide)]
section
variable {P:Program} {w:World} {K:PySem.W.Frag} {mg:Str->Option Value} {base:Heap} {f:Addr} {fd:FuncData} {a:Ad}
theorem qjr:qo ["first","kind"] ["first","kind"] (qe Z2):=⟨rfl,rfl,rfl,by decide +kernel,rfl,by decide +kernel,by decide +kernel⟩
theorem qjs (F:Fun K "fits" "fits" Z2 f fd) (T:Tx P w K mg a):qB P w K mg base CX0 1 f fd ["first","kind"] qhi:=by
 refine F.ok qjr (fun vs H Q E h=>?_) (fun cdv A outer s H vs Q E hr h=>?_)
 ·obtain ⟨x,k,rfl,_⟩:=h; rfl
 ·obtain ⟨x,y,rfl,k⟩:=h
  refine ⟨_,qi (qW (qK jd (pv 0) zh (qN _)) (qf (zn (qb4 JZ (pv 1) (qT T.g_ATOM_BEGINNINGS) (by with_unfolding_all rfl)))) zJ) (qf (zn (qb4 jd (pv 0) (pv 1) (qN _)))),?_⟩
  refine ⟨_,rfl,rfl,_,rfl,jr (fun e=>?_) fun e=>?_⟩
  ·have e:x = "ARGUMENT":=by have:=of_decide_eq_true e; injection this
   refine ⟨_,rfl,a.ATOM_BEGINNINGS,_,rfl,.inr (T.t_ATOM_BEGINNINGS.sq _),rfl,qde _,?_⟩
   have:Zi x y=inV (.str y) (qbN.map V.str):=by unfold Zi; rw [if_pos e,qfC]
   rw [this] at k; exact k
  ·have e:¬ x = "ARGUMENT":=fun z=>e (decide_eq_true (by rw [z]))
   refine ⟨_,rfl,_,rfl,rfl,?_⟩
   have:Zi x y=decide (V.str x=V.str y):=by
    unfold Zi; rw [if_neg e]
    exact decide_eq_decide.mpr ⟨fun z=>by rw [z],fun z=>by injection z⟩
   rw [this] at k; exact k
theorem ZJ:qo ["part","kind","symbols","choice"] ["part","kind"] (qe QW):=⟨rfl,rfl,rfl,by decide +kernel,rfl,by decide +kernel,by decide +kernel⟩
theorem qhj (F:Fun K "choose" "choose" QW f fd) (T:Tx P w K mg a) (G:FnAt P w K mg base CX0 1 "fits" ["first","kind"] qhi):qB P w K mg base CX0 2 f fd ["part","kind"] (qeC a):=by
 refine F.ok ZJ (fun vs H Q E h=>?_) (fun cdv A outer s H vs Q E hr h=>?_)
 ·obtain ⟨x,k,rfl,_⟩:=h; rfl
 ·obtain ⟨x,y,rfl,hy,k⟩:=h
  refine ⟨_,qi (qU (i:=2) ZJ.nd rfl (Or.inl rfl) (zo qh))
   (qi (JU PassesOwn.never rfl (qdL (qfy (qT T.g_GRAMMAR) (pv 0) (fun _ _=>rfl))) (QS (i:=3) ZJ.nd rfl (Or.inl rfl))
    (qi (qU (i:=2) ZJ.nd rfl (Or.inl rfl) (qhT (pv 3)))
    (qf (qW (qdJ (Zp (pv 2) (by intro _; rfl)) (qb1 (QH (qZ G hr qI (qc (QI jK (pv 2) qx (fun _ _=>rfl)) (qc (pv 1) qh)))))).pt (qf (zn (pv 2))) zJ))))
   (qf (zn (pv 2)))),?_⟩
  refine ⟨Nat.zero_le _,fun q hq=>?_⟩
  have hmem:=qeB x (Qi x)
  have hrow:=T.t_gram _ (qih x (Qi x))
  have hval:zR (Qm.map fun r=>((Sum.inr r.1:Key),V.ref (a.gram r.1))) (Sum.inr (QQ x))=some (.ref (a.gram (QQ x))):=by rw [qcs]; exact if_pos hmem
  have hc:=qgg x (Qi x) y hy
  refine ⟨_,rfl,a.GRAMMAR,_,Sum.inr (QQ x),_,rfl,T.d_GRAMMAR,rfl,hval,a.gram (QQ x),rfl,⟨_,hrow.sq _⟩,
   qb3 (K:=K) (a:=a.gram (QQ x)) (xs:=(rowsOf x).map V.str) (fun i σ H'=>∃ (v:Option V) (l:Addr) (ys:List Str),σ = [some (.str (QQ x)),some (.str (ju y)),some (.ref l),v]/\qM H H'/\H l=none/\H' l=some (.lst (ys.map V.str))/\j6 (ju y) (rowsOf x) []=j6 (ju y) ((rowsOf x).drop i) ys)
   ⟨none,q,[],rfl,qH hq,hq,qd,rfl⟩ (fun i σ H' _ _=>hrow.sq _) ?_ ?_⟩
  ·rintro i z σ H1 hi ⟨v,l,ys,rfl,s1,hl,hl1,ech⟩
   obtain ⟨r,hr',rfl⟩:∃ r,(rowsOf x)[i]? = some r/\V.str r=z:=by
    rw [List.getElem?_map] at hi
    exact Option.map_eq_some_iff.mp hi
   have hsz:r.length<=1000:=qgi x (Qi x) r (List.mem_of_getElem? hr')
   have hd:(rowsOf x).drop i=r::(rowsOf x).drop (i+1):=by
    obtain ⟨h1,h2⟩:=List.getElem?_eq_some_iff.mp hr'
    rw [<- h2]; exact List.drop_eq_getElem_cons h1
   rw [hd] at ech
   refine ⟨_,rfl,⟨_,rfl⟩,r,rfl,rfl,?_,fun p hp=>?_⟩
   ·have:(1000:Nat)+2<=sizeLine:=by decide
    omega
   have hpH:H p=none:=s1.free hp
   have s2:=s1.trans (qH (o:=.lst ((Txt.words r).map V.str)) hp)
   refine ⟨_,rfl,_,.inl ⟨_,SqL.of qd,rfl⟩,?_⟩
   cases hw:Txt.words r with
   | nil=>
    rw [hw] at s2
    refine zr (zr ?_)
    refine ⟨_,p,[],rfl,s2,hpH,qd,?_⟩
    rw [ech,qdf (fun x' l' z=>by rw [hw] at z; cases z),hw]
   | cons x0 l0=>
    rw [hw] at s2
    refine zU ⟨_,rfl,p,_,_,_,rfl,rfl,SqL.of qd,QF (j:=0) rfl,_,rfl,x0,_,rfl,_,rfl,?_⟩
    cases hf:Zi x0 (ju y) with
    | true=>
     refine zU ⟨_,rfl,?_⟩
     rw [qfe hw hf] at ech
     rw [ech] at hc
     refine k _ p s2 hpH ?_
     rw [qd,<- hc]
    | false=>
     refine zr ⟨_,p,x0::l0,rfl,s2,hpH,qd,?_⟩
     rw [ech,qdf (fun x' l' z=>by rw [hw] at z; cases z; exact hf),hw]
  ·rintro σ H1 ⟨v,l,ys,rfl,s1,hl,hl1,ech⟩
   refine ⟨_,rfl,?_⟩
   rw [List.length_map,List.drop_length] at ech
   refine k H1 l s1 hl ?_
   rw [hl1,<- hc,ech]
   rfl
end
end RT
end
section
namespace RT
open PySem PySem.Spec PyProof.Rows L2
open Vastoa (Mark Marks)
open RM (Part Sym qw kd held)
def ZA (M:Addr->Prop) (H:Hp) (lb:List Addr) (ls:List (List Nat)):Prop:=Paired (fun p (x:List Nat)=>H p=some (.lst (nt x))/\¬ M p) lb ls
mutual
def zk (a:Ad) (M:Addr->Prop) (H:Hp):Vastoa.Tree->Addr->Prop
 | .node k ls l,t=>∃ dx la ka lb ks,(H t=some (.ins a.Node dx (qah (.str (kindS k)) (.ref la) (.ref ka) (.int ((Vastoa.depths l+1:Nat):Int))))/\¬ M t)/\(H la=some (.lst (lb.map V.ref))/\¬ M la)/\ZA M H lb ls/\(H ka=some (.lst (ks.map V.ref))/\¬ M ka)/\qu a M H l ks
def qu (a:Ad) (M:Addr->Prop) (H:Hp):List Vastoa.Tree->List Addr->Prop
 | [],ks=>ks=[]
 | t::l,ks=>∃ k r,ks=k::r/\zk a M H t k/\qu a M H l r
end
def Pass (M:Addr->Prop) (H:Hp) (M':Addr->Prop) (H':Hp):Prop:=∀ b o,H b=some o->¬ M b->H' b=some o/\¬ M' b
theorem ZA.pass {M M':Addr->Prop} {H H':Hp} (p:Pass M H M' H') {lb:List Addr} {ls:List (List Nat)} (h:ZA M H lb ls):ZA M' H' lb ls:=qQ (fun x y q=>p _ _ q.1 q.2) h
mutual
theorem zk.pass {a:Ad} {M M':Addr->Prop} {H H':Hp} (p:Pass M H M' H'):∀ (T:Vastoa.Tree) (t:Addr),zk a M H T t->zk a M' H' T t
 | .node k ls l,t,h=>by
  unfold zk at h ⊢
  obtain ⟨dx,la,ka,lb,ks,h1,h2,h3,h4,h5⟩:=h
  exact ⟨dx,la,ka,lb,ks,p _ _ h1.1 h1.2,p _ _ h2.1 h2.2,h3.pass p,p _ _ h4.1 h4.2,qu.pass p l ks h5⟩
theorem qu.pass {a:Ad} {M M':Addr->Prop} {H H':Hp} (p:Pass M H M' H'):∀ (l:List Vastoa.Tree) (ks:List Addr),qu a M H l ks->qu a M' H' l ks
 | [],ks,h=>by unfold qu at h ⊢; exact h
 | T::l,ks,h=>by
  unfold qu at h ⊢
  obtain ⟨k,r,e,h1,h2⟩:=h
  exact ⟨k,r,e,zk.pass p T k h1,qu.pass p l r h2⟩
end
theorem jE.pass {a:Ad} {M M':Addr->Prop} {H H':Hp} (p:Pass M H M' H') {t:Addr} {m:Mark} (h:jE a M H t m):jE a M' H' t m:=by
 obtain ⟨dx,ha,h1,h2,h3,h4⟩:=h
 exact ⟨dx,ha,(p _ _ h1 h3).1,(p _ _ h2 h4).1,(p _ _ h1 h3).2,(p _ _ h2 h4).2⟩
theorem qP {a:Ad} {M:Addr->Prop} {H:Hp}:∀ {l:List Vastoa.Tree} {ks:List Addr},qu a M H l ks ↔ Paired (fun k T=>zk a M H T k) ks l
 | [],ks=>by
  unfold qu
  constructor
  ·rintro rfl; exact .nil
  ·intro h; cases h; rfl
 | T::l,ks=>by
  unfold qu
  constructor
  ·rintro ⟨k,r,rfl,h1,h2⟩
   exact .cons h1 (qP.mp h2)
  ·intro h
   cases h with
   | cons h1 h2=>exact ⟨_,_,rfl,h1,qP.mpr h2⟩
theorem zk.depth {a:Ad} {M:Addr->Prop} {H:Hp} {T:Vastoa.Tree} {t:Addr} (h:zk a M H T t):∃ dx x y z,H t=some (.ins a.Node dx (qah x y z (.int ((Vastoa.depth T:Nat):Int)))):=by
 cases T with
 | node k ls l=>
  unfold zk at h
  obtain ⟨dx,la,ka,lb,ks,h1,_⟩:=h
  refine ⟨dx,.str (kindS k),.ref la,.ref ka,?_⟩
  unfold Vastoa.depth
  exact h1.1
theorem qgj:∀ (l:List Vastoa.Tree) (m:Int),(l.map (fun T=>((Vastoa.depth T:Nat):Int))=[]->m=0)->(l.map (fun T=>((Vastoa.depth T:Nat):Int))≠[]->m∈l.map (fun T=>((Vastoa.depth T:Nat):Int))/\∀ y,y∈l.map (fun T=>((Vastoa.depth T:Nat):Int))->y<=m)->m=((Vastoa.depths l:Nat):Int):=by
 have up:∀ (l:List Vastoa.Tree) (y:Int),y∈l.map (fun T=>((Vastoa.depth T:Nat):Int))->y<=((Vastoa.depths l:Nat):Int):=by
  intro l
  induction l with
  | nil=>intro y h; cases h
  | cons T l ih=>
   intro y h
   unfold Vastoa.depths
   rcases List.mem_cons.mp h with rfl | h
   ·show ((Vastoa.depth T:Nat):Int)<=_
    omega
   ·have:=ih y h; omega
 have isin:∀ (l:List Vastoa.Tree),l≠[]->((Vastoa.depths l:Nat):Int)∈l.map (fun T=>((Vastoa.depth T:Nat):Int)):=by
  intro l
  induction l with
  | nil=>intro h; exact absurd rfl h
  | cons T l ih=>
   intro _
   unfold Vastoa.depths
   by_cases hl:l=[]
   ·subst hl
    unfold Vastoa.depths
    simp
   ·have:=ih hl
    rcases Nat.le_total (Vastoa.depth T) (Vastoa.depths l) with h | h
    ·rw [Nat.max_eq_right h]; exact List.mem_cons_of_mem _ this
    ·rw [Nat.max_eq_left h]; exact List.mem_cons_self
 intro l m h0 h1
 cases l with
 | nil=>
  rw [h0 rfl]
  unfold Vastoa.depths
  rfl
 | cons T l=>
  obtain ⟨g1,g2⟩:=h1 (by simp)
  have a1:=up _ m g1
  have a2:=g2 _ (isin (T::l) (by simp))
  omega
def qhk (a:Ad) (H:Hp) (ks:List Addr) (ds:List Int):Prop:=Paired (fun k d=>∃ dx x y z,H k=some (.ins a.Node dx (qah x y z (.int d)))) ks ds
theorem qeD {a:Ad} {M:Addr->Prop} {H:Hp}:∀ {l:List Vastoa.Tree} {ks:List Addr},qu a M H l ks->qhk a H ks (l.map fun T=>((Vastoa.depth T:Nat):Int))
 | [],ks,h=>by unfold qu at h; subst h; exact .nil
 | T::l,ks,h=>by
  unfold qu at h
  obtain ⟨k,r,rfl,h1,h2⟩:=h
  exact .cons h1.depth (qeD h2)
def qhl (a:Ad):Sp:=fun vs H Q E=>∃ (t dx ka:Addr) (k l:V) (ks:List Addr) (ds:List Int),vs=[.ref t,k,l,.ref ka]/\H t=some (.ins a.Node dx [])/\H ka=some (.lst (ks.map V.ref))/\qhk a H ks ds/\ks.length<=1000000 /\
 ∀ H' m,(∀ b o,H b=some o->b≠t->H' b=some o)->(ds=[]->m=0)->(ds≠[]->m∈ds/\∀ y,y∈ds->y<=m)->H' t=some (.ins a.Node dx (qah k l (.ref ka) (.int (1+m))))->Q .non H'
def qct (a:Ad):Sp:=fun vs H Q E=>∃ (g dx:Addr) (n:Int),vs=[.ref g,.int n]/\H g=some (.ins a.Begun dx []) /\
 ∀ H' la na,(∀ b o,H b=some o->b≠g->H' b=some o)->H la=none->H na=none->la≠na->H' g=some (.ins a.Begun dx (qcj (.int n) (.ref la) (.ref na)))->H' la=some (.lst [])->H' na=some (.dT [])->Q .non H'
section
variable {P:Program} {w:World} {K:PySem.W.Frag} {mg:Str->Option Value} {base:Heap} {f:Addr} {fd:FuncData} {a:Ad}
theorem ZB:qo ["self","kind","labels","kids","kid"] ["self","kind","labels","kids"] (qe jY):=⟨rfl,rfl,rfl,by decide +kernel,rfl,by decide +kernel,by decide +kernel⟩
theorem qeE (F:Fun K "__init__" "Node.__init__" jY f fd) (T:Tx P w K mg a):qB P w K mg base CX0 1 f fd ["self","kind","labels","kids"] (qhl a):=by
 refine F.ok ZB (fun vs H Q E h=>?_) (fun cdv A outer s H vs Q E hr h=>?_)
 ·obtain ⟨t,dx,ka,k,l,ks,ds,rfl,_⟩:=h; rfl
 ·obtain ⟨t,dx,ka,kk,l,ks,ds,rfl,ht,hka,hks,hlen,k⟩:=h
  refine ⟨_,qi (zc (pv 0) (pv 1) rfl) (qi (zc (pv 0) (pv 2) rfl) (qi (zc (pv 0) (pv 3) rfl)
   (qf (zc (pv 0) (Zh JV qx (qji rfl (by rfl) T.b_max (qix (own:=[("kid",4)]) (te:=qb6 K (jt 4) "depth") rfl ZB.nd (qb2 (pv 3)) (qdT rfl) (fun _ _ _ _ _=>QS (i:=4) ZB.nd rfl (Or.inl rfl)) (fun _ _ _ _ _=>qfp) (fun _ _ _ _ _=>qk (pv 4) rfl)))) rfl)))),?_⟩
  have tka:ka≠t:=qaA hka ht (by intro q; cases q)
  refine ⟨_,rfl,_,rfl,t,_,dx,_,rfl,ht,T.c_Node,T.n_Node_kind,(by show 0<1000; decide),?_⟩
  refine ⟨_,rfl,_,rfl,t,_,dx,_,rfl,qd,T.c_Node,T.n_Node_labels,(by show 1<1000; decide),?_⟩
  refine ⟨_,rfl,_,rfl,t,_,dx,_,rfl,qd,T.c_Node,T.n_Node_kids,(by show 2<1000; decide),?_⟩
  rw [jm,jm]
  generalize hH1:upd H t (.ins a.Node dx (qL "kids" (.ref ka) (qL "labels" l (qL "kind" kk []))))=H1
  have k1:∀ b o,H b=some o->b≠t->H1 b=some o:=fun b o e n=>by rw [<- hH1,qa n]; exact e
  have ht1:H1 t=some (.ins a.Node dx (qL "kids" (.ref ka) (qL "labels" l (qL "kind" kk [])))):=by rw [<- hH1]; exact qd
  have hka1:=k1 _ _ hka tka
  refine ⟨_,rfl,ka,rfl,⟨_,SqL.of hka1⟩,fun D hD=>qiY (K:=K) (a:=ka) (xs:=ks.map V.ref) (fun i H'=>H'=upd H1 D (.lst ((ds.take i).map V.int))) rfl (fun i H' _ e=>by subst e; exact SqL.of (qH hD _ _ hka1)) ?_ ?_⟩
  ·rintro i x _ hx rfl
   obtain ⟨kd,hkd,rfl⟩:∃ y,ks[i]? = some y/\V.ref y=x:=by
    rw [List.getElem?_map] at hx
    exact Option.map_eq_some_iff.mp hx
   have hil:i<ks.length:=(List.getElem?_eq_some_iff.mp hkd).1
   have hdl:i<ds.length:=by rw [<- Paired.length hks]; exact hil
   obtain ⟨kd',h1,dx',x1,y1,z1,h2⟩:=jk hks (List.getElem?_eq_getElem hdl)
   rw [hkd] at h1
   cases h1
   have nt':kd≠t:=fun e=>by
    subst e
    rw [ht] at h2
    have:=Option.some.inj h2
    injection this with _ _ e3
    cases e3
   refine ⟨rfl,⟨_,rfl,kd,_,dx',_,_,rfl,qH hD _ _ (k1 _ _ h2 nt'),T.c_Node,T.n_Node_depth,qbQ _ _ _ _,_,qd,?_,?_⟩⟩
   ·rw [List.length_map,List.length_take]
    exact Nat.lt_of_le_of_lt (Nat.min_le_left _ _) (zW (by omega))
   ·rw [jm]
    congr 2
    rw [List.take_succ,List.getElem?_eq_getElem hdl,List.map_append]
    rfl
  ·rintro _ rfl
   rw [List.length_map,Paired.length hks,List.take_length]
   have s2:=qH (o:=.lst (ds.map V.int)) hD
   refine ⟨D,ds,rfl,SqL.of qd,fun m h1 h2=>⟨_,_,rfl,rfl,_,rfl,t,_,dx,_,rfl,s2 _ _ ht1,T.c_Node,T.n_Node_depth,(by show 3<1000; decide),?_⟩⟩
   refine k _ m (fun b o e n=>?_) h1 h2 ?_
   ·rw [qa n]; exact s2 _ _ (k1 b o e n)
   ·exact qd
theorem qdt:qo ["self","first"] ["self","first"] (qe jO):=⟨rfl,rfl,rfl,by decide +kernel,rfl,by decide +kernel,by decide +kernel⟩
theorem qdu (F:Fun K "__init__" "Begun.__init__" jO f fd) (T:Tx P w K mg a):qB P w K mg base CX0 1 f fd ["self","first"] (qct a):=by
 refine F.ok qdt (fun vs H Q E h=>?_) (fun cdv A outer s H vs Q E hr h=>?_)
 ·obtain ⟨g,dx,n,rfl,_⟩:=h; rfl
 ·obtain ⟨g,dx,n,rfl,hg,k⟩:=h
  refine ⟨_,qi (zc (pv 0) (pv 1) rfl) (qi (zc (pv 0) (zo qh) rfl) (qf (zc (pv 0) qhQ rfl))),?_⟩
  refine ⟨_,rfl,_,rfl,g,_,dx,_,rfl,hg,T.c_Begun,T.n_Begun_first,(by show 0<1000; decide),?_⟩
  refine ⟨Nat.zero_le _,fun la hla=>?_⟩
  have gla:g≠la:=qg qd hla
  rw [qa (Ne.symm gla)] at hla
  refine ⟨_,rfl,g,_,dx,_,rfl,(qa gla).trans qd,T.c_Begun,T.n_Begun_labels,(by show 1<1000; decide),fun na hna=>?_⟩
  have gna:g≠na:=qg qd hna
  rw [qa (Ne.symm gna)] at hna
  have lna:la≠na:=qg qd hna
  rw [qa (Ne.symm lna),qa (Ne.symm gna)] at hna
  refine ⟨_,rfl,g,_,dx,_,rfl,(qa gna).trans qd,T.c_Begun,T.n_Begun_names,(by show 2<1000; decide),?_⟩
  refine k _ la na (fun b o e n=>?_) hla hna lna qd ?_ ?_
  ·rw [qa n,qa (qg e hna),qa n,qa (qg e hla),qa n]; exact e
  ·rw [qa (Ne.symm gla),qa lna,qa (Ne.symm gla),qd]
  ·rw [qa (Ne.symm gna),qd]
end
end RT
end
section
namespace RT
open PySem PySem.Spec PyProof.Rows L2
open Vastoa (Mark Marks)
open RM (Part Sym qw kd held MS Bg)
def keyOf (x:List Nat):List Key:=x.map fun n=>Sum.inl ((n:Nat):Int)
theorem qii (x:List Nat):(keyOf x).map kV=nt x:=by simp [keyOf,nt,kV]
theorem qhm {x y:List Nat} (h:keyOf x=keyOf y):x=y:=by
 unfold keyOf at h
 exact (List.map_inj_right (fun p q z=>by have:=Sum.inl.inj z; omega)).mp h
def Qw (ns:List (List Nat)):List (List Key × V):=ns.map fun x=>(keyOf x,V.bl true)
theorem qas (x:List Nat):∀ ns:List (List Nat),zR (Qw ns) (keyOf x)=if x∈ns then some (.bl true) else none
 | []=>rfl
 | y::ns=>by
  have ih:=qas x ns
  unfold Qw at ih ⊢
  by_cases h:y=x
  ·subst h
   rw [List.map_cons,Zs rfl,if_pos List.mem_cons_self]
  ·rw [List.map_cons,Zt (fun z=>h (qhm z)),ih]
   by_cases h2:x∈ns
   ·rw [if_pos h2,if_pos (List.mem_cons_of_mem _ h2)]
   ·rw [if_neg h2,if_neg (by rw [List.mem_cons]; exact fun z=>z.elim (fun z=>h z.symm) h2)]
theorem qhn {x:List Nat} {ns:List (List Nat)} (h:x∉ns):putK (Qw ns) (keyOf x) (.bl true)=Qw (ns++[x]):=by
 have e:zR (Qw ns) (keyOf x)=none:=by rw [qas,if_neg h]
 refine (qhO _ e).trans ?_
 simp [Qw]
def qho (a:Ad) (K:PySem.W.Frag):Sp:=fun vs H Q E=>∃ (na t:Addr) (ns:List (List Nat)) (m:Mark),vs=[.ref na,.ref t]/\H na=some (.dT (Qw ns))/\jE a M0 H t m/\ns.length<=1000000 /\
 (held m.tok∈ns->XW K a.Refusal H 5 m.place E)/\(held m.tok∉ns->∀ H',(∀ b o,H b=some o->b≠na->H' b=some o)->H' na=some (.dT (Qw (ns++[held m.tok])))->Q .non H')
section
variable {P:Program} {w:World} {K:PySem.W.Frag} {mg:Str->Option Value} {base:Heap} {f:Addr} {fd:FuncData} {a:Ad}
theorem qat:qo ["names","token","name"] ["names","token"] (qe j4):=⟨rfl,rfl,rfl,by decide +kernel,rfl,by decide +kernel,by decide +kernel⟩
theorem qeF (F:Fun K "meet_name" "meet_name" j4 f fd) (T:Tx P w K mg a) (Gx:QA P w K mg base 2 a.NameTwice "NameTwice" ["self","place"] (spX a.NameTwice 5 true)):qB P w K mg base (CXR P w) 4 f fd ["names","token"] (qho a K):=by
 refine F.okR qat (fun vs H Q E h=>?_) (fun cdv A outer s H vs Q E hr h=>?_)
 ·obtain ⟨na,t,ns,m,rfl,_⟩:=h; rfl
 ·obtain ⟨na,t,ns,m,rfl,hna,⟨dx,ha,ht,hha,_,_⟩,hlen,kx,ko⟩:=h
  have hu:=qkD hr
  refine ⟨_,qi (qU (i:=2) qat.nd rfl (Or.inl rfl) (qgA qdk (by rfl) T.b_tuple PyProof.Rows.boot_tuple (qc (qk (pv 1) rfl) qh)))
   (qi (qW (qdI (qjW hu (pv 2) (pv 0))) (qf (jD Gx hr (qc (qk (pv 1) rfl) qh))) zJ)
   (qf (qi0 hu (pv 0) (pv 2) Jc rfl))),?_⟩
  refine ⟨_,rfl,t,_,dx,_,_,rfl,ht,T.c_Token,T.n_Token_held,qc9 _ _ _,ha,_,rfl,.inl ⟨SqL.of hha,fun p hp=>?_⟩⟩
  have s1:=qH (o:=.tup (nt (held m.tok))) hp
  have hp1:(upd H p (.tup (nt (held m.tok)))) p=some (.tup ((keyOf (held m.tok)).map kV)):=by rw [qii]; exact qd
  refine ⟨_,rfl,_,rfl,na,_,rfl,qdV.t (s1 _ _ hna) hp1,_,rfl,?_⟩
  rw [qas]
  by_cases hm:held m.tok∈ns
  ·rw [if_pos hm]
   refine zU ⟨_,rfl,t,_,dx,_,_,rfl,s1 _ _ ht,T.c_Token,T.n_Token_place,Jt _ _ _,?_⟩
   exact Qr T.x_NameTwice T.u_NameTwice T.n_NameTwice_number T.n_NameTwice_place (fun C dx' H' s2 x=>kx hm C dx' H' (s1.trans s2) x)
  ·rw [if_neg hm]
   refine zr ⟨_,rfl,_,rfl,na,_,rfl,qdW.t (s1 _ _ hna) hp1 (by unfold Qw; rw [List.length_map]; exact zW hlen),?_⟩
   rw [qhn hm]
   refine ko hm _ (fun b o e n=>?_) qd
   rw [qa n]; exact s1 _ _ e
end
end RT
end
section
namespace RT
open PySem PySem.Spec PyProof.Rows L2
open Vastoa (Mark Marks)
open RM (Part Sym qw kd held MS Bg)
structure BA where
 g:Addr
 la:Addr
 na:Addr
structure RA where
 r:Addr
 dx:Addr
 ts:Addr
 wl:Addr
 bl:Addr
 gl:Addr
 gs:List BA
def j8 (gs:List BA):List Addr:=gs.flatMap fun x=>[x.la,x.na]
def RA.own (z:RA):List Addr:=z.wl::z.bl::z.gl::j8 z.gs
def RA.M (z:RA) (b:Addr):Prop:=b=z.r \/ b∈z.own
theorem RA.mr (z:RA):z.M z.r:=.inl rfl
theorem RA.mw (z:RA):z.M z.wl:=.inr List.mem_cons_self
theorem RA.mb (z:RA):z.M z.bl:=.inr (List.mem_cons_of_mem _ List.mem_cons_self)
theorem RA.mg (z:RA):z.M z.gl:=.inr (List.mem_cons_of_mem _ (List.mem_cons_of_mem _ List.mem_cons_self))
theorem zz {gs:List BA} {x:BA} (h:x∈gs):x.la∈j8 gs/\x.na∈j8 gs:=⟨List.mem_flatMap.mpr ⟨x,h,by simp⟩,List.mem_flatMap.mpr ⟨x,h,by simp⟩⟩
theorem RA.mo (z:RA) {b:Addr} (h:b∈j8 z.gs):z.M b:=.inr (List.mem_cons_of_mem _ (List.mem_cons_of_mem _ (List.mem_cons_of_mem _ h)))
theorem jU {A B:Type} {R S:A->B->Prop}:∀ {as:List A} {bs:List B},(∀ x y,x∈as->R x y->S x y)->Paired R as bs->Paired S as bs
 | _,_,_,.nil=>.nil
 | _,_,i,.cons q t=>.cons (i _ _ List.mem_cons_self q) (jU (fun x y h=>i x y (List.mem_cons_of_mem _ h)) t)
def qau (a:Ad) (M:Addr->Prop) (H:Hp) (x:BA) (g:Bg):Prop:=∃ dx lb,(H x.g=some (.ins a.Begun dx (qcj (.int (g.first:Int)) (.ref x.la) (.ref x.na)))/\¬ M x.g)/\H x.la=some (.lst (lb.map V.ref))/\ZA M H lb g.labels/\H x.na=some (.dT (Qw g.names))
structure qG (a:Ad) (H:Hp) (z:RA) (toks:Marks) (n:Nat) (S:MS):Prop where
 ins:H z.r=some (.ins a.Reader z.dx (Qs (.ref z.ts) (.int (n:Int)) (.int (S.lv:Int)) (.ref z.wl) (.ref z.bl) (.ref z.gl)))
 tks:∃ as,(H z.ts=some (.lst (as.map V.ref))/\¬ z.M z.ts)/\Paired (jE a z.M H) as toks
 wl:H z.wl=some (.lst (S.W.reverse.map fun s=>V.str (jG s)))
 bl:∃ bs,H z.bl=some (.lst (bs.map V.ref))/\qu a z.M H S.B bs
 gl:H z.gl=some (.lst ((z.gs.map (·.g)).reverse.map V.ref))
 gs:Paired (qau a z.M H) z.gs S.G
 nd:z.own.Nodup
 ts:S.ts=toks.drop n
 pv:atI toks ((n:Int) - 1)=some S.pv
section
variable {a:Ad} {H H':Hp} {z:RA} {toks:Marks} {n:Nat} {S:MS}
theorem qau.pass {M M':Addr->Prop} {x:BA} {g:Bg} (p:Pass M H M' H') (h:qau a M H x g) (h1:H' x.la=H x.la) (h2:H' x.na=H x.na):qau a M' H' x g:=by
 obtain ⟨dx,lb,q1,q2,q3,q4⟩:=h
 exact ⟨dx,lb,p _ _ q1.1 q1.2,by rw [h1]; exact q2,q3.pass p,by rw [h2]; exact q4⟩
theorem qG.own_some (h:qG a H z toks n S) {b:Addr} (hb:b∈z.own):∃ o,H b=some o/\∀ C d fs,o≠.ins C d fs:=by
 rcases List.mem_cons.mp hb with rfl | hb
 ·exact ⟨_,h.wl,fun _ _ _ q=>by cases q⟩
 rcases List.mem_cons.mp hb with rfl | hb
 ·obtain ⟨bs,h1,_⟩:=h.bl
  exact ⟨_,h1,fun _ _ _ q=>by cases q⟩
 rcases List.mem_cons.mp hb with rfl | hb
 ·exact ⟨_,h.gl,fun _ _ _ q=>by cases q⟩
 obtain ⟨x,hx,hb⟩:=List.mem_flatMap.mp hb
 obtain ⟨i,hi⟩:=List.getElem?_of_mem hx
 have hl:=(List.getElem?_eq_some_iff.mp hi).1
 have hlG:i<S.G.length:=by rw [<- Paired.length h.gs]; exact hl
 obtain ⟨x',e1,dx,lb,_,q2,_,q4⟩:=jk h.gs (List.getElem?_eq_getElem hlG)
 rw [hi] at e1
 cases e1
 rcases List.mem_cons.mp hb with rfl | hb
 ·exact ⟨_,q2,fun _ _ _ q=>by cases q⟩
 ·have:b=x.na:=by simpa using hb
  subst this
  exact ⟨_,q4,fun _ _ _ q=>by cases q⟩
theorem qG.fresh (h:qG a H z toks n S) {p:Addr} (hp:H p=none):¬ z.M p:=by
 rintro (rfl | hb)
 ·rw [h.ins] at hp; cases hp
 ·obtain ⟨o,e,_⟩:=h.own_some hb
  rw [e] at hp; cases hp
theorem qG.nr (h:qG a H z toks n S) {b:Addr} (hb:b∈z.own):b≠z.r:=fun e=>by
 obtain ⟨o,e1,e2⟩:=h.own_some hb
 rw [e,h.ins] at e1
 cases e1
 exact e2 _ _ _ rfl
theorem ZK {M:Addr->Prop} (s:qM H H'):Pass M H M H':=fun b o e n=>⟨s b o e,n⟩
theorem jl {M:Addr->Prop} (k:qj M H H'):Pass M H M H':=fun b o e n=>⟨k b o e n,n⟩
theorem qG.same (h:qG a H z toks n S) (s:qM H H'):qG a H' z toks n S:=by
 obtain ⟨as,t1,t2⟩:=h.tks
 obtain ⟨bs,b1,b2⟩:=h.bl
 have p:Pass z.M H z.M H':=ZK s
 refine ⟨s _ _ h.ins,⟨as,⟨s _ _ t1.1,t1.2⟩,qQ (fun x y q=>q.pass p) t2⟩,s _ _ h.wl,⟨bs,s _ _ b1,qu.pass p _ _ b2⟩,s _ _ h.gl,qQ (fun x y q=>?_) h.gs,h.nd,h.ts,h.pv⟩
 obtain ⟨dx,lb,q1,q2,q3,q4⟩:=q
 exact ⟨dx,lb,p _ _ q1.1 q1.2,s _ _ q2,q3.pass p,s _ _ q4⟩
theorem qG.put (h:qG a H z toks n S) (n' lv':Nat) (ts':Marks) (pv':Mark) (ht:ts'=toks.drop n') (hp:atI toks ((n':Int) - 1)=some pv') :
  qG a (upd H z.r (.ins a.Reader z.dx (Qs (.ref z.ts) (.int (n':Int)) (.int (lv':Int)) (.ref z.wl) (.ref z.bl) (.ref z.gl)))) z toks n' { S with ts:=ts',pv:=pv',lv:=lv' }:=by
 obtain ⟨as,t1,t2⟩:=h.tks
 obtain ⟨bs,b1,b2⟩:=h.bl
 have k:qj z.M H (upd H z.r (.ins a.Reader z.dx (Qs (.ref z.ts) (.int (n':Int)) (.int (lv':Int)) (.ref z.wl) (.ref z.bl) (.ref z.gl)))):=qj.at_ z.mr
 have p:=jl k
 have o:∀ b,b∈z.own->(upd H z.r (.ins a.Reader z.dx (Qs (.ref z.ts) (.int (n':Int)) (.int (lv':Int)) (.ref z.wl) (.ref z.bl) (.ref z.gl)))) b=H b:=fun b hb=>qa (h.nr hb)
 refine ⟨qd,⟨as,p _ _ t1.1 t1.2,qQ (fun x y q=>q.pass p) t2⟩,?_,⟨bs,?_,qu.pass p _ _ b2⟩,?_,?_,h.nd,ht,hp⟩
 ·rw [o _ (by simp [RA.own])]; exact h.wl
 ·rw [o _ (by simp [RA.own])]; exact b1
 ·rw [o _ (by simp [RA.own])]; exact h.gl
 ·refine jU (fun x y hx q=>q.pass p (o _ ?_) (o _ ?_)) h.gs
  ·simp only [RA.own,List.mem_cons]; exact .inr (.inr (.inr (zz hx).1))
  ·simp only [RA.own,List.mem_cons]; exact .inr (.inr (.inr (zz hx).2))
end
end RT
end
section
namespace RT
open PySem PySem.Spec PyProof.Rows L2
open Vastoa (Mark Marks)
open RM (Part Sym qw kd held MS Bg)
def wV (W:List Sym):List V:=W.reverse.map fun s=>V.str (jG s)
section
variable {a:Ad} {H H':Hp} {z:RA} {toks:Marks} {n:Nat} {S:MS}
theorem qG.nwl (h:qG a H z toks n S):z.wl≠z.bl/\z.wl≠z.gl/\z.wl∉j8 z.gs:=by
 have:=List.nodup_cons.mp h.nd
 simp only [List.mem_cons,not_or] at this
 exact ⟨this.1.1,this.1.2.1,this.1.2.2⟩
theorem qG.nbl (h:qG a H z toks n S):z.bl≠z.gl/\z.bl∉j8 z.gs:=by
 have:=List.nodup_cons.mp (List.nodup_cons.mp h.nd).2
 simp only [List.mem_cons,not_or] at this
 exact this.1
theorem qG.ngl (h:qG a H z toks n S):z.gl∉j8 z.gs/\(j8 z.gs).Nodup:=List.nodup_cons.mp (List.nodup_cons.mp (List.nodup_cons.mp h.nd).2).2
theorem qG.ow (z:RA):z.wl∈z.own:=by simp [RA.own]
theorem qG.ob (z:RA):z.bl∈z.own:=by simp [RA.own]
theorem qG.og (z:RA):z.gl∈z.own:=by simp [RA.own]
theorem qG.oo (z:RA) {b:Addr} (h:b∈j8 z.gs):b∈z.own:=by simp only [RA.own,List.mem_cons]; exact .inr (.inr (.inr h))
theorem qG.putW (h:qG a H z toks n S) (W':List Sym):qG a (upd H z.wl (.lst (wV W'))) z toks n { S with W:=W' }:=by
 obtain ⟨as,t1,t2⟩:=h.tks
 obtain ⟨bs,b1,b2⟩:=h.bl
 obtain ⟨n1,n2,n3⟩:=h.nwl
 have k:qj z.M H (upd H z.wl (.lst (wV W'))):=qj.at_ z.mw
 have p:=jl k
 refine ⟨by rw [qa (Ne.symm (h.nr (qG.ow z)))]; exact h.ins,⟨as,p _ _ t1.1 t1.2,qQ (fun x y q=>q.pass p) t2⟩,qd,⟨bs,by rw [qa (Ne.symm n1)]; exact b1,qu.pass p _ _ b2⟩,by rw [qa (Ne.symm n2)]; exact h.gl,?_,h.nd,h.ts,h.pv⟩
 refine jU (fun x y hx q=>q.pass p (qa ?_) (qa ?_)) h.gs
 ·exact fun e=>n3 (e ▸ (zz hx).1)
 ·exact fun e=>n3 (e ▸ (zz hx).2)
theorem qG.putB (h:qG a H z toks n S) {bs:List Addr} {B':List Vastoa.Tree} (hb:qu a z.M H B' bs):qG a (upd H z.bl (.lst (bs.map V.ref))) z toks n { S with B:=B' }:=by
 obtain ⟨as,t1,t2⟩:=h.tks
 obtain ⟨n1,n2,n3⟩:=h.nwl
 obtain ⟨m1,m2⟩:=h.nbl
 have k:qj z.M H (upd H z.bl (.lst (bs.map V.ref))):=qj.at_ z.mb
 have p:=jl k
 refine ⟨by rw [qa (Ne.symm (h.nr (qG.ob z)))]; exact h.ins,⟨as,p _ _ t1.1 t1.2,qQ (fun x y q=>q.pass p) t2⟩,by rw [qa n1]; exact h.wl,⟨bs,qd,qu.pass p _ _ hb⟩,by rw [qa (Ne.symm m1)]; exact h.gl,?_,h.nd,h.ts,h.pv⟩
 refine jU (fun x y hx q=>q.pass p (qa ?_) (qa ?_)) h.gs
 ·exact fun e=>m2 (e ▸ (zz hx).1)
 ·exact fun e=>m2 (e ▸ (zz hx).2)
end
def j9 (a:Ad) (K:PySem.W.Frag) (z:RA) (toks:Marks) (H:Hp) (r:Option (Except Vastoa.Fault MS)) (Q:Hp->Prop) (E:XK):Prop:=match r with
 | some (.ok S')=>∀ H' z' n',z'.r=z.r->Pass z.M H z'.M H'->qG a H' z' toks n' S'->Q H'
 | some (.error f)=>XWM z.M K a.Refusal H (f.kind:Int) (f.place:Int) E
 | none=>False
def qdg (a:Ad) (K:PySem.W.Frag):Sp:=fun vs H Q E=>∃ (z:RA) (toks:Marks) (n:Nat) (S:MS) (k:qam) (m:Mark) (r:Marks),vs=[.ref z.r,.str (ju k)]/\qG a H z toks n S/\k∈jp/\CM.Q2 m.tok=true/\S.ts=m::r /\
 j9 a K z toks H (if kd m.tok=k then some (.ok ⟨r,m,S.lv,S.W,S.B,S.G⟩) else some (.error ⟨3,m.place⟩)) (Q .non) E
def qfD (a:Ad) (K:PySem.W.Frag):Sp:=fun vs H Q E=>∃ (z:RA) (toks:Marks) (n:Nat) (S:MS),vs=[.ref z.r]/\qG a H z toks n S/\j9 a K z toks H (RM.Jn .enter S.ts S.pv S.lv S.W S.B S.G) (Q .non) E
theorem JC {toks:Marks} {n:Nat} {m:Mark} {r:Marks} (h:m::r=toks.drop n):toks[n]? = some m/\toks.drop (n+1)=r:=by
 constructor
 ·have:(toks.drop n)[0]? = some m:=by rw [<- h]; rfl
  rw [List.getElem?_drop] at this
  exact this
 ·rw [<- List.drop_drop,<- h]; rfl
theorem Zj {M M1 M2:Addr->Prop} {H H1 H2:Hp} (p:Pass M H M1 H1) (q:Pass M1 H1 M2 H2):Pass M H M2 H2:=fun b o e n=>q b o (p b o e n).1 (p b o e n).2
section
variable {P:Program} {w:World} {K:PySem.W.Frag} {mg:Str->Option Value} {base:Heap} {f:Addr} {fd:FuncData} {a:Ad}
theorem JI:qo ["self","kind","token"] ["self","kind"] (qe zF):=⟨rfl,rfl,rfl,by decide +kernel,rfl,by decide +kernel,by decide +kernel⟩
theorem qdv (F:Fun K "read_token" "Reader.read_token" zF f fd) (T:Tx P w K mg a) (Gx:QA P w K mg base 2 a.WrongSyntax "WrongSyntax" ["self","place"] (spX a.WrongSyntax 3 true)):qB P w K mg base (CXR P w) 4 f fd ["self","kind"] (qdg a K):=by
 refine F.okR JI (fun vs H Q E h=>?_) (fun cdv A outer s H vs Q E hr h=>?_)
 ·obtain ⟨z,toks,n,S,k,m,r,rfl,_⟩:=h; rfl
 ·obtain ⟨z,toks,n,S,k,m,r,rfl,hR,hk,hm,hts,res⟩:=h
  refine ⟨_,qi (qU (i:=2) JI.nd rfl (Or.inl rfl) (QI jK (qk (pv 0) rfl) (qk (pv 0) rfl) (fun _ _=>rfl)))
   (qi (qW (qK qkx (qk (pv 2) rfl) (pv 1) (qN _)) (qf (jD Gx hr (qc (qk (pv 2) rfl) qh))) zJ)
   (qf (jQ (pv 0) qx Zq))),?_⟩
  obtain ⟨as,t1,t2⟩:=hR.tks
  obtain ⟨e1,e2⟩:=JC (hts.symm.trans hR.ts)
  obtain ⟨t,ht,dx,ha,ht1,ht2,_,_⟩:=jk t2 e1
  refine ⟨_,rfl,z.r,_,z.dx,_,_,rfl,hR.ins,T.c_Reader,T.n_Reader_tokens,Qv _ _ _ _ _ _,_,rfl,z.r,_,z.dx,_,_,rfl,hR.ins,T.c_Reader,T.n_Reader_at,Zl _ _ _ _ _ _,z.ts,_,_,_,rfl,rfl,SqL.of t1.1,QF (v:=V.ref t) (by rw [List.getElem?_map,ht]; rfl),?_⟩
  refine ⟨_,rfl,t,_,dx,_,_,rfl,ht1,T.c_Token,T.n_Token_kind,qc8 _ _ _,_,rfl,rfl,_,rfl,?_⟩
  have iff:(V.str (ju m.tok)=V.str (ju k)) ↔ kd m.tok=k:=by
   constructor
   ·intro e
    injection e with e
    rw [<- qcr] at e
    exact qig _ (Jz hm) _ hk e
   ·intro e; rw [<- e,qcr]
  by_cases hkd:kd m.tok=k
  ·rw [decide_eq_true (iff.mpr hkd)]
   rw [if_pos hkd] at res
   refine zr ⟨_,rfl,z.r,_,z.dx,_,_,rfl,hR.ins,T.c_Reader,T.n_Reader_at,Zl _ _ _ _ _ _,_,_,rfl,rfl,z.dx,_,hR.ins,(by show 6<1000; decide),?_⟩
   exact res _ z (n+1) rfl (jl (qj.at_ z.mr)) (hR.put (n+1) S.lv r m e2.symm (by rw [show (((n+1:Nat):Int) - 1)=(n:Int) by omega]; exact QF e1))
  ·rw [decide_eq_false (fun y=>hkd (iff.mp y))]
   rw [if_neg hkd] at res
   refine zU ⟨_,rfl,t,_,dx,_,_,rfl,ht1,T.c_Token,T.n_Token_place,Jt _ _ _,?_⟩
   exact Qr T.x_WrongSyntax T.u_WrongSyntax T.n_WrongSyntax_number T.n_WrongSyntax_place (XWM.on res (qj.refl _ _))
theorem qcu:qo ["self"] ["self"] (qe zx):=⟨rfl,rfl,rfl,by decide +kernel,rfl,by decide +kernel,by decide +kernel⟩
theorem qcv (F:Fun K "enter_level" "Reader.enter_level" zx f fd) (T:Tx P w K mg a) (Gx:QA P w K mg base 2 a.LevelTooDeep "LevelTooDeep" ["self","place"] (spX a.LevelTooDeep 4 true)):qB P w K mg base (CXR P w) 4 f fd ["self"] (qfD a K):=by
 refine F.okR qcu (fun vs H Q E h=>?_) (fun cdv A outer s H vs Q E hr h=>?_)
 ·obtain ⟨z,toks,n,S,rfl,_⟩:=h; rfl
 ·obtain ⟨z,toks,n,S,rfl,hR,res⟩:=h
  refine ⟨_,qi (qW (qK jd (qk (pv 0) rfl) (qT T.g_MOST_LEVELS) (qN _)) (qf (jD Gx hr (qc (qk (QI jK (qk (pv 0) rfl) (qk (pv 0) rfl) (fun _ _=>rfl)) rfl) qh))) zJ)
   (qf (jQ (pv 0) qx Zq)),?_⟩
  refine ⟨_,rfl,z.r,_,z.dx,_,_,rfl,hR.ins,T.c_Reader,T.n_Reader_level,Jv _ _ _ _ _ _,rfl,_,rfl,?_⟩
  cases hS:S.ts with
  | nil=>rw [hS] at res; exact res.elim
  | cons m r=>
   rw [hS] at res
   obtain ⟨as,t1,t2⟩:=hR.tks
   obtain ⟨e1,e2⟩:=JC (hS.symm.trans hR.ts)
   obtain ⟨t,ht,dx,ha,ht1,ht2,_,_⟩:=jk t2 e1
   by_cases hl:S.lv=40
   ·rw [decide_eq_true (by rw [hl]; rfl)]
    have res:j9 a K z toks H (if S.lv=40 then some (.error ⟨4,m.place⟩) else _) (Q .non) E:=res
    rw [if_pos hl] at res
    refine zU ⟨_,rfl,z.r,_,z.dx,_,_,rfl,hR.ins,T.c_Reader,T.n_Reader_tokens,Qv _ _ _ _ _ _,_,rfl,z.r,_,z.dx,_,_,rfl,hR.ins,T.c_Reader,T.n_Reader_at,Zl _ _ _ _ _ _,z.ts,_,_,_,rfl,rfl,SqL.of t1.1,QF (v:=V.ref t) (by rw [List.getElem?_map,ht]; rfl),t,_,dx,_,_,rfl,ht1,T.c_Token,T.n_Token_place,Jt _ _ _,?_⟩
    exact Qr T.x_LevelTooDeep T.u_LevelTooDeep T.n_LevelTooDeep_number T.n_LevelTooDeep_place (XWM.on res (qj.refl _ _))
   ·rw [decide_eq_false (fun y=>hl (by injection y with y; omega))]
    have res:j9 a K z toks H (if S.lv=40 then some (.error ⟨4,m.place⟩) else some (.ok ⟨m::r,S.pv,S.lv+1,S.W,S.B,S.G⟩)) (Q .non) E:=res
    rw [if_neg hl] at res
    refine zr ⟨_,rfl,z.r,_,z.dx,_,_,rfl,hR.ins,T.c_Reader,T.n_Reader_level,Jv _ _ _ _ _ _,_,_,rfl,rfl,z.dx,_,hR.ins,(by show 6<1000; decide),?_⟩
    exact res _ z n rfl (jl (qj.at_ z.mr)) (hR.put n (S.lv+1) (m::r) S.pv (by rw [<- hS]; exact hR.ts) hR.pv)
end
end RT
end
section
namespace RT
open PySem PySem.Spec PyProof.Rows L2
open Vastoa (Mark Marks)
open RM (Part Sym qw kd held MS Bg)
theorem qaZ {A B:Type} {R:A->B->Prop}:∀ {as:List A} {bs:List B} (n:Nat),Paired R as bs->Paired R (as.take n) (bs.take n)
 | _,_,0,_=>.nil
 | _,_,_+1,.nil=>.nil
 | _,_,n+1,.cons q t=>.cons q (qaZ n t)
theorem qa0 {A B:Type} {R:A->B->Prop}:∀ {as:List A} {bs:List B} (n:Nat),Paired R as bs->Paired R (as.drop n) (bs.drop n)
 | _,_,0,r=>r
 | _,_,_+1,.nil=>.nil
 | _,_,n+1,.cons q t=>qa0 n t
theorem qG.pop {a:Ad} {H:Hp} {z:RA} {toks:Marks} {n:Nat} {S:MS} {x:BA} {gs:List BA} {g:Bg} {G:List Bg} (h:qG a H z toks n S) (ez:z.gs=x::gs) (eG:S.G=g::G) :
  qG a (upd H z.gl (.lst ((gs.map (·.g)).reverse.map V.ref))) { z with gs:=gs } toks n { S with G:=G }/\Pass z.M H ({ z with gs:=gs }:RA).M (upd H z.gl (.lst ((gs.map (·.g)).reverse.map V.ref))) /\
  qau a ({ z with gs:=gs }:RA).M (upd H z.gl (.lst ((gs.map (·.g)).reverse.map V.ref))) x g/\¬ ({ z with gs:=gs }:RA).M x.la:=by
 obtain ⟨as,t1,t2⟩:=h.tks
 obtain ⟨bs,b1,b2⟩:=h.bl
 obtain ⟨n1,n2,n3⟩:=h.nwl
 obtain ⟨m1,m2⟩:=h.nbl
 obtain ⟨g1,g2⟩:=h.ngl
 have hgs:=h.gs
 rw [ez] at n3 m2 g1 g2 hgs
 rw [eG] at hgs
 have eo:j8 (x::gs)=x.la::x.na::j8 gs:=rfl
 rw [eo] at n3 m2 g1 g2
 simp only [List.mem_cons,not_or] at n3 m2 g1
 obtain ⟨nd1,nd2⟩:=List.nodup_cons.mp g2
 obtain ⟨nd3,nd4⟩:=List.nodup_cons.mp nd2
 simp only [List.mem_cons,not_or] at nd1
 have sub:∀ b,({ z with gs:=gs }:RA).M b->z.M b:=fun b hb=>by
  rcases hb with hb | hb
  ·exact .inl hb
  ·refine .inr ?_
   simp only [RA.own,List.mem_cons] at hb ⊢
   rcases hb with hb | hb | hb | hb
   ·exact .inl hb
   ·exact .inr (.inl hb)
   ·exact .inr (.inr (.inl hb))
   ·refine .inr (.inr (.inr ?_))
    rw [ez,eo]
    exact List.mem_cons_of_mem _ (List.mem_cons_of_mem _ hb)
 have k:qj z.M H (upd H z.gl (.lst ((gs.map (·.g)).reverse.map V.ref))):=qj.at_ z.mg
 have p:Pass z.M H ({ z with gs:=gs }:RA).M (upd H z.gl (.lst ((gs.map (·.g)).reverse.map V.ref))):=fun b o e nb=>⟨k b o e nb,fun y=>nb (sub b y)⟩
 have hr:∀ b,b∈z.own->b≠z.r:=fun b hb=>h.nr hb
 cases hgs with
 | cons q0 qs=>
  refine ⟨⟨?_,⟨as,p _ _ t1.1 t1.2,qQ (fun x y q=>q.pass p) t2⟩,?_,⟨bs,?_,qu.pass p _ _ b2⟩,qd,?_,?_,h.ts,h.pv⟩,p,?_,?_⟩
  ·show upd H z.gl _ z.r=_
   rw [qa (Ne.symm (h.nr (qG.og z)))]; exact h.ins
  ·show upd H z.gl _ z.wl=_
   rw [qa n2]; exact h.wl
  ·show upd H z.gl _ z.bl=_
   rw [qa m1]; exact b1
  ·refine jU (fun x y hx q=>q.pass p (qa ?_) (qa ?_)) qs
   ·exact fun e=>g1.2.2 (e ▸ (zz hx).1)
   ·exact fun e=>g1.2.2 (e ▸ (zz hx).2)
  ·show (z.wl::z.bl::z.gl::j8 gs).Nodup
   exact List.nodup_cons.mpr ⟨by simp only [List.mem_cons,not_or]; exact ⟨n1,n2,n3.2.2⟩,List.nodup_cons.mpr ⟨by simp only [List.mem_cons,not_or]; exact ⟨m1,m2.2.2⟩,List.nodup_cons.mpr ⟨g1.2.2,nd4⟩⟩⟩
  ·exact q0.pass p (qa (Ne.symm g1.1)) (qa (Ne.symm g1.2.1))
  ·rintro (y | y)
   ·obtain ⟨dx,lb,_,q2,_,_⟩:=q0
    rw [y,h.ins] at q2
    cases q2
   ·simp only [RA.own,List.mem_cons] at y
    rcases y with y | y | y | y
    ·exact n3.1 y.symm
    ·exact m2.1 y.symm
    ·exact g1.1 y.symm
    ·exact nd1.2 y
def qdh (a:Ad):Sp:=fun vs H Q E=>∃ (z:RA) (toks:Marks) (n:Nat) (S:MS) (k:qdC) (g:Bg) (G:List Bg),vs=[.ref z.r,.str (kindS k)]/\qG a H z toks n S/\S.B.length<=1000000/\S.G=g::G/\g.first<=S.B.length /\
 ∀ H' z',z'.r=z.r->Pass z.M H z'.M H'->qG a H' z' toks n ⟨S.ts,S.pv,S.lv,S.W,S.B.take g.first++[.node k g.labels (S.B.drop g.first)],G⟩->Q .non H'
section
variable {P:Program} {w:World} {K:PySem.W.Frag} {mg:Str->Option Value} {base:Heap} {f:Addr} {fd:FuncData} {a:Ad}
theorem ZY:qo ["self","kind","begun","kids"] ["self","kind"] (qe z6):=⟨rfl,rfl,rfl,by decide +kernel,rfl,by decide +kernel,by decide +kernel⟩
theorem qff (F:Fun K "end_node" "Reader.end_node" z6 f fd) (T:Tx P w K mg a) (Gn:qbd P w K mg base CX0 1 a.Node "Node" ["self","kind","labels","kids"] (qhl a)):qB P w K mg base CX0 3 f fd ["self","kind"] (qdh a):=by
 refine F.ok ZY (fun vs H Q E h=>?_) (fun cdv A outer s H vs Q E hr h=>?_)
 ·obtain ⟨z,toks,n,S,k,g,G,rfl,_⟩:=h; rfl
 ·obtain ⟨z,toks,n,S,k,g,G,rfl,hR,hB,eG,hgf,res⟩:=h
  refine ⟨_,qi (qU (i:=2) ZY.nd rfl (Or.inl rfl) (J1 PySem.F.plainAttrs_list PySem.F.slot_list_pop PySem.F.type_list_pop J4 (qk (pv 0) rfl)))
   (qi (qU (i:=3) ZY.nd rfl (Or.inl rfl) (zo qh))
   (qi (Qa PassesOwn.never (qK qaD (zG zd (by rfl) T.b_len PySem.boot_len (qc (qk (pv 0) rfl) qh)) (qk (pv 2) rfl) (qN _))
    (qf (qt (js PySem.F.plainAttrs_list PySem.F.slot_list_append PySem.F.type_list_append zA (pv 3) (qc (J1 PySem.F.plainAttrs_list PySem.F.slot_list_pop PySem.F.type_list_pop J4 (qk (pv 0) rfl)) qh)))))
   (qf (qt (js PySem.F.plainAttrs_list PySem.F.slot_list_append PySem.F.type_list_append zA (qk (pv 0) rfl) (qc (QD Gn hr qI (qc (pv 1) (qc (qk (pv 2) rfl) (qc (qen (pv 3)) qh)))) qh)))))),?_⟩
  obtain ⟨x,gs,ez⟩:∃ x gs,z.gs=x::gs:=by
   have:=Paired.length hR.gs
   rw [eG] at this
   cases hz:z.gs with
   | nil=>rw [hz] at this; cases this
   | cons x gs=>exact ⟨x,gs,rfl⟩
  obtain ⟨R1,p1,Bx,nla⟩:=hR.pop ez eG
  have hpop:(z.gs.map (·.g)).reverse.map V.ref=(gs.map (·.g)).reverse.map V.ref++[V.ref x.g]:=by rw [ez]; simp
  refine ⟨_,rfl,z.r,_,z.dx,_,_,rfl,hR.ins,T.c_Reader,T.n_Reader_begun,QO _ _ _ _ _ _,.inl ⟨rfl,_,SqL.of hR.gl⟩,z.gl,_,V.ref x.g,rfl,rfl,hR.gl,by rw [hpop]; simp,?_⟩
  rw [show ((z.gs.map (·.g)).reverse.map V.ref).dropLast=(gs.map (·.g)).reverse.map V.ref by rw [hpop]; simp]
  generalize hz1:({ z with gs:=gs }:RA)=z1 at R1 p1 Bx nla
  have er:z1.r=z.r:=by rw [<- hz1]
  have ebl:z1.bl=z.bl:=by rw [<- hz1]
  generalize upd H z.gl (.lst ((gs.map (·.g)).reverse.map V.ref))=H1 at R1 p1 Bx ⊢
  obtain ⟨gdx,lb,⟨q1,q1n⟩,q2,q3,q4⟩:=Bx
  obtain ⟨bs,b1,b2⟩:=R1.bl
  have hbl:bs.length=S.B.length:=Paired.length (qP.mp b2)
  refine ⟨Nat.zero_le _,fun kl hkl=>?_⟩
  have nkl:=R1.fresh hkl
  have klbl:kl≠z1.bl:=fun e=>nkl (by rw [e]; exact z1.mb)
  refine ⟨fun m σ H'=>σ = [some (.ref z.r),some (.str (kindS k)),some (.ref x.g),some (.ref kl)]/\∃ j,g.first<=j/\j<=bs.length/\H' z1.bl=some (.lst ((bs.take j).map V.ref))/\H' kl=some (.lst ((bs.drop j).reverse.map V.ref))/\(∀ b o,H1 b=some o->b≠z1.bl->H' b=some o)/\j=m,
   ⟨_,rfl,bs.length,by omega,Nat.le_refl _,?_,?_,fun b o e _=>qH hkl _ _ e,rfl⟩,?_⟩
  ·rw [qa (Ne.symm klbl),List.take_length]; exact b1
  ·rw [qd,List.drop_length]; rfl
  rintro m σ H2 ⟨rfl,j,hj1,hj2,hb2,hk2,k2,rfl⟩
  have rbl:z.r≠z1.bl:=by rw [<- er]; exact Ne.symm (R1.nr (qG.ob z1))
  have ins2:=k2 _ _ (er ▸ R1.ins) rbl
  have xg2:=k2 _ _ q1 (fun e=>q1n (by rw [e]; exact z1.mb))
  refine ⟨_,rfl,z.r,_,_,_,_,rfl,ins2,T.c_Reader,T.n_Reader_built,Qn _ _ _ _ _ _,z1.bl,_,rfl,.inl (SqL.of hb2),_,rfl,x.g,_,gdx,_,_,rfl,xg2,T.c_Begun,T.n_Begun_first,qf9 _ _ _,_,_,rfl,rfl,_,rfl,?_⟩
  rw [show (((bs.take j).map V.ref).length:Int)=(j:Int) by rw [List.length_map,List.length_take,Nat.min_eq_left hj2]]
  refine jr (fun hlt=>?_) fun hlt=>?_
  ·have hlt:g.first<j:=by have:=of_decide_eq_true hlt; omega
   obtain ⟨j,rfl⟩:∃ i,j=i+1:=⟨j - 1,by omega⟩
   have hjl:j<bs.length:=by omega
   refine ⟨_,fun σ' H' q=>q,?_⟩
   have hlast:(bs.take (j+1)).map V.ref=(bs.take j).map V.ref++[V.ref bs[j]]:=by rw [List.take_succ,List.getElem?_eq_getElem hjl,List.map_append]; rfl
   refine ⟨_,rfl,.inl ⟨rfl,_,SqL.of hk2⟩,_,rfl,z.r,_,_,_,_,rfl,ins2,T.c_Reader,T.n_Reader_built,Qn _ _ _ _ _ _,.inl ⟨rfl,_,SqL.of hb2⟩,z1.bl,_,V.ref bs[j],rfl,rfl,hb2,by rw [hlast]; simp,?_⟩
   rw [show ((bs.take (j+1)).map V.ref).dropLast=(bs.take j).map V.ref by rw [hlast]; simp]
   refine ⟨kl,_,_,rfl,rfl,by rw [qa klbl]; exact hk2,?_,?_⟩
   ·rw [List.length_map,List.length_reverse,List.length_drop]; exact zW (by omega)
   ·refine ⟨j,Nat.lt_succ_self _,rfl,j,by omega,by omega,?_,?_,fun b o e nb=>?_,rfl⟩
    ·rw [qa (Ne.symm klbl),qd]
    ·rw [qd,List.drop_eq_getElem_cons hjl,List.reverse_cons,List.map_append]; rfl
    ·rw [qa (qg e hkl),qa nb]; exact k2 b o e nb
  ·have hjf:j=g.first:=by
    have:¬ ((g.first:Int)<(j:Int)):=fun y=>hlt (decide_eq_true y)
    omega
   subst hjf
   refine ⟨_,rfl,z.r,_,_,_,_,rfl,ins2,T.c_Reader,T.n_Reader_built,Qn _ _ _ _ _ _,.inl ⟨rfl,_,SqL.of hb2⟩,?_⟩
   refine ⟨_,rfl,_,rfl,x.g,_,gdx,_,_,rfl,xg2,T.c_Begun,T.n_Begun_labels,qaW _ _ _,_,rfl,kl,_,rfl,SqL.of hk2,fun rl hrl=>?_⟩
   rw [show ((bs.drop g.first).reverse.map V.ref).reverse=(bs.drop g.first).map V.ref by simp]
   have s3:=qH (o:=.lst ((bs.drop g.first).map V.ref)) hrl
   have hrl3:(upd H2 rl (.lst ((bs.drop g.first).map V.ref))) rl=some (.lst ((bs.drop g.first).map V.ref)):=qd
   generalize upd H2 rl (.lst ((bs.drop g.first).map V.ref))=H3 at s3 hrl3 ⊢
   intro t tdx ht htdx hne
   have s4:qM H3 (upd (upd H3 tdx (.own t)) t (.ins a.Node tdx [])):=fun b o e=>by rw [qa (qg e ht),qa (qg e htdx)]; exact e
   have R3:qG a H3 z1 toks n { S with G:=G,B:=S.B.take g.first }:=by
    have hT:qu a z1.M H1 (S.B.take g.first) (bs.take g.first):=qP.mpr (qaZ _ (qP.mp b2))
    refine (R1.putB hT).same fun b o e=>?_
    by_cases hb:b=z1.bl
    ·subst hb
     rw [qd] at e
     rw [<- e]
     exact s3 _ _ hb2
    ·rw [qa hb] at e
     exact s3 _ _ (k2 b o e hb)
   have P3:Pass z1.M H1 z1.M H3:=fun b o e nb=>⟨s3 _ _ (k2 b o e (fun y=>nb (by rw [y]; exact z1.mb))),nb⟩
   have hKd:qu a z1.M H3 (S.B.drop g.first) (bs.drop g.first):=qu.pass P3 _ _ (qP.mpr (qa0 _ (qP.mp b2)))
   have hND:=qeD (qu.pass (ZK s4) _ _ hKd)
   refine ⟨t,tdx,rl,_,_,bs.drop g.first,_,rfl,qd,s4 _ _ hrl3,hND,by rw [List.length_drop]; omega,fun H5 m k5 h1 h2 ht5=>⟨rfl,?_⟩⟩
   have em:=qgj _ m h1 h2
   have s5:qM H3 H5:=fun b o e=>k5 b o (s4 b o e) (qg e ht)
   have R5:=R3.same s5
   have nt5:¬ z1.M t:=R3.fresh ht
   have nrl:¬ z1.M rl:=fun y=>by
    rcases y with y | y
    ·have:=k2 _ _ R1.ins (by exact Ne.symm (R1.nr (qG.ob z1)))
     rw [<- y,hrl] at this; cases this
    ·obtain ⟨o,e,_⟩:=R1.own_some y
     by_cases hb:rl=z1.bl
     ·rw [hb,hb2] at hrl; cases hrl
     ·rw [k2 _ _ e hb] at hrl; cases hrl
   have P5:Pass z1.M H1 z1.M H5:=fun b o e nb=>⟨s5 _ _ (P3 b o e nb).1,nb⟩
   have hTree:zk a z1.M H5 (.node k g.labels (S.B.drop g.first)) t:=by
    unfold zk
    refine ⟨tdx,x.la,rl,lb,bs.drop g.first,⟨?_,nt5⟩,P5 _ _ q2 nla,q3.pass P5,⟨s5 _ _ hrl3,nrl⟩,qu.pass (ZK s5) _ _ hKd⟩
    rw [ht5,em,show (1+((Vastoa.depths (S.B.drop g.first):Nat):Int))=((Vastoa.depths (S.B.drop g.first)+1:Nat):Int) by omega]
   obtain ⟨bs5,b5,c5⟩:=R5.bl
   have hb5:H5 z1.bl=some (.lst ((bs.take g.first).map V.ref)):=s5 _ _ (s3 _ _ hb2)
   have e5:bs5=bs.take g.first:=by
    rw [b5] at hb5
    have:=Option.some.inj hb5
    injection this with this
    exact (List.map_inj_right (fun x y q=>by injection q)).mp this
   subst e5
   refine ⟨z1.bl,_,_,rfl,rfl,hb5,?_,?_⟩
   ·rw [List.length_map,List.length_take]; exact zW (by omega)
   have c6:qu a z1.M H5 (S.B.take g.first++[.node k g.labels (S.B.drop g.first)]) (bs.take g.first++[t]):=qP.mpr (Q4 (qP.mp c5) hTree)
   have R6:=R5.putB c6
   rw [List.map_append] at R6
   exact res _ z1 er (Zj (Zj p1 P5) (jl (qj.at_ z1.mb))) R6
end
end RT
end
section
namespace RT
open PySem PySem.Spec PyProof.Rows L2
open Vastoa (Mark Marks)
open RM (Part Sym qw kd held MS Bg)
theorem qjt {α β : Type} (f:α -> β) (xs:List α) (i:Int):atI (xs.map f) i=(atI xs i).map f:=by
 unfold atI
 rw [List.length_map]
 cases ixN xs.length i with
 | none=>rfl
 | some j=>show (xs.map f)[j]? = (xs[j]?).map f; rw [List.getElem?_map]
theorem qgk {A B:Type} {R:A->B->Prop} {as:List A} {bs:List B} {i:Int} {y:B} (h:Paired R as bs) (e:atI bs i=some y):∃ x,atI as i=some x/\R x y:=by
 unfold atI at e ⊢
 rw [Paired.length h]
 cases hj:ixN bs.length i with
 | none=>rw [hj] at e; cases e
 | some j=>
  rw [hj] at e
  exact jk h e
section
variable {a:Ad} {H H':Hp} {z:RA} {toks:Marks} {n:Nat} {S:MS}
theorem qG.head {x:BA} {gs:List BA} {g g':Bg} {G:List Bg} {b:Addr} (h:qG a H z toks n S) (ez:z.gs=x::gs) (eG:S.G=g::G) (hb:b=x.la \/ b=x.na) (k:∀ c o,H c=some o->c≠b->H' c=some o)
  (hx:qau a z.M H' x g'):qG a H' z toks n { S with G:=g'::G }/\Pass z.M H z.M H':=by
 obtain ⟨as,t1,t2⟩:=h.tks
 obtain ⟨bs,b1,b2⟩:=h.bl
 obtain ⟨n1,n2,n3⟩:=h.nwl
 obtain ⟨m1,m2⟩:=h.nbl
 obtain ⟨g1,g2⟩:=h.ngl
 have ho:b∈j8 z.gs:=by
  rw [ez]
  rcases hb with rfl | rfl
  ·exact (zz List.mem_cons_self).1
  ·exact (zz List.mem_cons_self).2
 have hM:z.M b:=z.mo ho
 have p:Pass z.M H z.M H':=fun c o e nc=>⟨k c o e (fun y=>nc (by rw [y]; exact hM)),nc⟩
 have hgs:=h.gs
 rw [ez,eG] at hgs
 have nd:=g2
 rw [ez] at nd
 have eo:j8 (x::gs)=x.la::x.na::j8 gs:=rfl
 rw [eo] at nd
 obtain ⟨nd1,nd2⟩:=List.nodup_cons.mp nd
 obtain ⟨nd3,nd4⟩:=List.nodup_cons.mp nd2
 simp only [List.mem_cons,not_or] at nd1
 have hbn:b∉j8 gs:=by rcases hb with rfl | rfl; exact nd1.2; exact nd3
 cases hgs with
 | cons q0 qs=>
  refine ⟨⟨k _ _ h.ins (Ne.symm (h.nr (qG.oo z ho))),⟨as,p _ _ t1.1 t1.2,qQ (fun x y q=>q.pass p) t2⟩,k _ _ h.wl (fun e=>n3 (by rw [e]; exact ho)),⟨bs,k _ _ b1 (fun e=>m2 (by rw [e]; exact ho)),qu.pass p _ _ b2⟩,k _ _ h.gl (fun e=>g1 (by rw [e]; exact ho)),?_,h.nd,h.ts,h.pv⟩,p⟩
  rw [ez]
  refine .cons hx (jU (fun y g'' hy q=>?_) qs)
  obtain ⟨dx,lb,c1,c2,c3,c4⟩:=q
  exact ⟨dx,lb,p _ _ c1.1 c1.2,k _ _ c2 (fun e=>hbn (e ▸ (zz hy).1)),c3.pass p,k _ _ c4 (fun e=>hbn (e ▸ (zz hy).2))⟩
theorem qG.push {H1:Hp} {x:BA} {dx:Addr} {first:Nat} (h:qG a H z toks n S) (s:qM H H1) (hg:H x.g=none) (hla:H x.la=none) (hna:H x.na=none) (ln:x.la≠x.na) (gl1:x.g≠x.la) (gn1:x.g≠x.na)
  (e1:H1 x.g=some (.ins a.Begun dx (qcj (.int (first:Int)) (.ref x.la) (.ref x.na)))) (e2:H1 x.la=some (.lst [])) (e3:H1 x.na=some (.dT [])) :
  qG a (upd H1 z.gl (.lst ((z.gs.map (·.g)).reverse.map V.ref++[.ref x.g]))) { z with gs:=x::z.gs } toks n { S with G:=⟨first,[],[]⟩::S.G } /\
  Pass z.M H ({ z with gs:=x::z.gs }:RA).M (upd H1 z.gl (.lst ((z.gs.map (·.g)).reverse.map V.ref++[.ref x.g]))):=by
 obtain ⟨as,t1,t2⟩:=h.tks
 obtain ⟨bs,b1,b2⟩:=h.bl
 obtain ⟨n1,n2,n3⟩:=h.nwl
 obtain ⟨m1,m2⟩:=h.nbl
 obtain ⟨g1,g2⟩:=h.ngl
 have some_ne:∀ {b:Addr},b∈z.own->b≠x.la/\b≠x.na:=fun {b} hb=>by
  obtain ⟨o,e,_⟩:=h.own_some hb
  exact ⟨qg e hla,qg e hna⟩
 have inM:∀ b,({ z with gs:=x::z.gs }:RA).M b->z.M b \/ b=x.la \/ b=x.na:=fun b hb=>by
  rcases hb with hb | hb
  ·exact .inl (.inl hb)
  ·have hb:b∈z.wl::z.bl::z.gl::x.la::x.na::j8 z.gs:=hb
   simp only [List.mem_cons] at hb
   rcases hb with hb | hb | hb | hb | hb | hb
   ·exact .inl (by rw [hb]; exact z.mw)
   ·exact .inl (by rw [hb]; exact z.mb)
   ·exact .inl (by rw [hb]; exact z.mg)
   ·exact .inr (.inl hb)
   ·exact .inr (.inr hb)
   ·exact .inl (z.mo hb)
 have p:Pass z.M H ({ z with gs:=x::z.gs }:RA).M (upd H1 z.gl (.lst ((z.gs.map (·.g)).reverse.map V.ref++[.ref x.g]))):=fun b o e nb=>by
  refine ⟨?_,fun y=>?_⟩
  ·rw [qa (fun y=>nb (by rw [y]; exact z.mg))]; exact s b o e
  ·rcases inM b y with y | y | y
   ·exact nb y
   ·exact qg e hla y
   ·exact qg e hna y
 have own:∀ b o,H b=some o->b≠z.gl->(upd H1 z.gl (.lst ((z.gs.map (·.g)).reverse.map V.ref++[.ref x.g]))) b=some o:=fun b o e nb=>by rw [qa nb]; exact s b o e
 have xgl:x.g≠z.gl:=fun e=>by rw [e,h.gl] at hg; cases hg
 have nxg:¬ ({ z with gs:=x::z.gs }:RA).M x.g:=fun y=>by
  rcases inM _ y with y | y | y
  ·exact h.fresh hg y
  ·exact gl1 y
  ·exact gn1 y
 refine ⟨⟨own _ _ h.ins (Ne.symm (h.nr (qG.og z))),⟨as,p _ _ t1.1 t1.2,qQ (fun x y q=>q.pass p) t2⟩,own _ _ h.wl n2,⟨bs,own _ _ b1 m1,qu.pass p _ _ b2⟩,?_,?_,?_,h.ts,h.pv⟩,p⟩
 ·show upd H1 z.gl _ z.gl=_
  rw [qd]
  simp
 ·refine .cons ⟨dx,[],⟨?_,nxg⟩,?_,.nil,?_⟩ (jU (fun y g'' hy q=>?_) h.gs)
  ·rw [qa xgl]; exact e1
  ·rw [qa (Ne.symm (some_ne (qG.og z)).1)]; exact e2
  ·rw [qa (Ne.symm (some_ne (qG.og z)).2)]; exact e3
  ·obtain ⟨dx,lb,c1,c2,c3,c4⟩:=q
   exact ⟨dx,lb,p _ _ c1.1 c1.2,own _ _ c2 (fun e=>g1 (e ▸ (zz hy).1)),c3.pass p,own _ _ c4 (fun e=>g1 (e ▸ (zz hy).2))⟩
 ·show (z.wl::z.bl::z.gl::x.la::x.na::j8 z.gs).Nodup
  refine List.nodup_cons.mpr ⟨?_,List.nodup_cons.mpr ⟨?_,List.nodup_cons.mpr ⟨?_,List.nodup_cons.mpr ⟨?_,List.nodup_cons.mpr ⟨?_,g2⟩⟩⟩⟩⟩
  ·simp only [List.mem_cons,not_or]; exact ⟨n1,n2,(some_ne (qG.ow z)).1,(some_ne (qG.ow z)).2,n3⟩
  ·simp only [List.mem_cons,not_or]; exact ⟨m1,(some_ne (qG.ob z)).1,(some_ne (qG.ob z)).2,m2⟩
  ·simp only [List.mem_cons,not_or]; exact ⟨(some_ne (qG.og z)).1,(some_ne (qG.og z)).2,g1⟩
  ·simp only [List.mem_cons,not_or]; exact ⟨ln,fun y=>(some_ne (qG.oo z y)).1 rfl⟩
  ·exact fun y=>(some_ne (qG.oo z y)).2 rfl
end
def qiF (a:Ad) (K:PySem.W.Frag):Sp:=fun vs H Q E=>∃ (z:RA) (toks:Marks) (n:Nat) (S:MS) (x:qeA),vs=[.ref z.r,.str (QR x)]/\qG a H z toks n S/\S.B.length<=1000000/\RM.gw S.G<=500000 /\
 j9 a K z toks H (RM.Jn x S.ts S.pv S.lv S.W S.B S.G) (Q .non) E
theorem Z9 (x y:qeA):decide (V.str (QR x)=V.str (QR y))=decide (x=y):=decide_eq_decide.mpr ⟨fun e=>qjq x (JB x) y (JB y) (by injection e),fun e=>by rw [e]⟩
end RT
end
section
namespace RT
open PySem PySem.Spec PyProof.Rows L2
open Vastoa (Mark Marks)
open RM (Part Sym qw kd held MS Bg)
section
variable {P:Program} {w:World} {K:PySem.W.Frag} {mg:Str->Option Value} {base:Heap} {f:Addr} {fd:FuncData} {a:Ad}
theorem qkm:qo ["self","action"] ["self","action"] (qe jP):=⟨rfl,rfl,rfl,by decide +kernel,rfl,by decide +kernel,by decide +kernel⟩
theorem qkn (F:Fun K "act" "Reader.act" jP f fd) (T:Tx P w K mg a) (Gb:qbd P w K mg base CX0 1 a.Begun "Begun" ["self","first"] (qct a)) (Gm:FnAt P w K mg base (CXR P w) 4 "meet_name" ["names","token"] (qho a K))
  (Ge:zS P w K mg base (CXR P w) 4 a.Reader "enter_level" ["self"] (qfD a K)) (Gn:zS P w K mg base CX0 3 a.Reader "end_node" ["self","kind"] (qdh a)):qB P w K mg base (CXR P w) 5 f fd ["self","action"] (qiF a K):=by
 refine F.okR qkm (fun vs H Q E h=>?_) (fun cdv A outer s H vs Q E hr h=>?_)
 ·obtain ⟨z,toks,n,S,x,rfl,_⟩:=h; rfl
 ·obtain ⟨z,toks,n,S,x,rfl,hR,hB,hG,res⟩:=h
  have hr2:qE 2 _:=hr.mono (by decide)
  have hr3:qE 3 _:=hr.mono (by decide)
  refine ⟨_,qf (qW (qK jd (pv 1) zh (qN _)) (qf (qt (js PySem.F.plainAttrs_list PySem.F.slot_list_append PySem.F.type_list_append zA (qk (pv 0) rfl) (qc (QD Gb hr2 qI (qc (zG zd (by rfl) T.b_len PySem.boot_len (qc (qk (pv 0) rfl) qh)) qh)) qh))))
   (qf (qW (qK jd (pv 1) zh (qN _)) (qf (qt (js PySem.F.plainAttrs_list PySem.F.slot_list_append PySem.F.type_list_append zA (qk (pv 0) rfl) (qc (QD Gb hr2 qI (qc (Zh qbo (zG zd (by rfl) T.b_len PySem.boot_len (qc (qk (pv 0) rfl) qh)) qx) qh)) qh))))
   (qf (qW (qK jd (pv 1) zh (qN _)) (qf (qt (js PySem.F.plainAttrs_list PySem.F.slot_list_append PySem.F.type_list_append zA (qk (QI jK (qk (pv 0) rfl) (qdx qbp qx) (fun _ _=>rfl)) rfl) (qc (qk (QI jK (qk (pv 0) rfl) (Zh qbo (qk (pv 0) rfl) qx) (fun _ _=>rfl)) rfl) qh))))
   (qf (qW (qK jd (pv 1) zh (qN _)) (qf (qt (qZ Gm hr jB (qc (qk (QI jK (qk (pv 0) rfl) (qdx qbp qx) (fun _ _=>rfl)) rfl) (qc (QI jK (qk (pv 0) rfl) (Zh qbo (qk (pv 0) rfl) qx) (fun _ _=>rfl)) qh)))))
   (qf (qW (qK jd (pv 1) zh (qN _)) (qf (qt (z7 Ge T.c_Reader hr jB (pv 0))))
   (qf (qW (qK jd (pv 1) zh (qN _)) (qf (jQ (pv 0) qx qjM))
   (qf (qt (qY Gn T.c_Reader hr3 qI (pv 0) (qc (pv 1) qh))))))))))))))),?_⟩
  obtain ⟨as,t1,t2⟩:=hR.tks
  obtain ⟨bs,b1,b2⟩:=hR.bl
  have hbl:bs.length=S.B.length:=Paired.length (qP.mp b2)
  have hgl:=RM.qgZ S.G
  have hgz:z.gs.length=S.G.length:=Paired.length hR.gs
  have glen:((z.gs.map (·.g)).reverse.map V.ref).length<sizeLine:=by
   rw [List.length_map,List.length_reverse,List.length_map]; exact zW (by omega)
  have beg:∀ (i:Int) (first:Nat),i=(first:Int)->(∀ H' z' n',z'.r=z.r->Pass z.M H z'.M H'->qG a H' z' toks n' { S with G:=⟨first,[],[]⟩::S.G }->Q .non H') ->
    ∀ gx dx,H gx=none->H dx=none->dx≠gx->qct a [.ref gx,.int i] (upd (upd H dx (.own gx)) gx (.ins a.Begun dx []))
     (fun v H2=>v=.non/\qfo (.ref z.gl) [.ref gx] H2 (fun _ H3=>Q .non H3)) E0:=by
   intro i first ei kk gx dx hgx hdx hne
   subst ei
   have s1:qM H (upd (upd H dx (.own gx)) gx (.ins a.Begun dx [])):=fun b o e=>by rw [qa (qg e hgx),qa (qg e hdx)]; exact e
   refine ⟨gx,dx,first,rfl,qd,fun H2 la na k2 hla hna ln e1 e2 e3=>⟨rfl,?_⟩⟩
   have s2:qM H H2:=fun b o e=>k2 b o (s1 b o e) (qg e hgx)
   have gla:gx≠la:=qg qd hla
   have gna:gx≠na:=qg qd hna
   obtain ⟨R2,p2⟩:=hR.push (x:=⟨gx,la,na⟩) (first:=first) s2 hgx (s1.free hla) (s1.free hna) ln gla gna e1 e2 e3
   exact ⟨z.gl,_,_,rfl,rfl,s2 _ _ hR.gl,glen,kk _ { z with gs:=⟨gx,la,na⟩::z.gs } n rfl p2 R2⟩
  refine ⟨_,rfl,rfl,_,rfl,?_⟩
  rw [show V.str (Str.ofString "begin")=V.str (QR .begin) from rfl,Z9]
  by_cases h1:x=.begin
  ·subst h1
   rw [decide_eq_true rfl]
   refine zU ⟨_,rfl,z.r,_,z.dx,_,_,rfl,hR.ins,T.c_Reader,T.n_Reader_begun,QO _ _ _ _ _ _,.inl ⟨rfl,_,SqL.of hR.gl⟩,?_⟩
   refine ⟨_,rfl,z.r,_,z.dx,_,_,rfl,hR.ins,T.c_Reader,T.n_Reader_built,Qn _ _ _ _ _ _,z.bl,_,rfl,.inl (SqL.of b1),?_⟩
   exact beg _ S.B.length (by rw [List.length_map,hbl]) res
  rw [decide_eq_false h1]
  refine zr ⟨_,rfl,rfl,_,rfl,?_⟩
  rw [show V.str (Str.ofString "take")=V.str (QR .take) from rfl,Z9]
  by_cases h2:x=.take
  ·subst h2
   rw [decide_eq_true rfl]
   refine zU ⟨_,rfl,z.r,_,z.dx,_,_,rfl,hR.ins,T.c_Reader,T.n_Reader_begun,QO _ _ _ _ _ _,.inl ⟨rfl,_,SqL.of hR.gl⟩,?_⟩
   refine ⟨_,rfl,z.r,_,z.dx,_,_,rfl,hR.ins,T.c_Reader,T.n_Reader_built,Qn _ _ _ _ _ _,z.bl,_,rfl,.inl (SqL.of b1),_,_,rfl,rfl,?_⟩
   have res:j9 a K z toks H (if S.B.length=0 then none else some (.ok { S with G:=⟨S.B.length - 1,[],[]⟩::S.G })) (Q .non) E:=res
   by_cases h0:S.B.length=0
   ·rw [if_pos h0] at res; exact res.elim
   ·rw [if_neg h0] at res
    exact beg _ (S.B.length - 1) (by rw [List.length_map,hbl]; omega) res
  rw [decide_eq_false h2]
  refine zr ⟨_,rfl,rfl,_,rfl,?_⟩
  rw [show V.str (Str.ofString "label")=V.str (QR .label) from rfl,Z9]
  obtain ⟨t,ht,dx,ha,ht1,ht2,nt1,nt2⟩:=qgk t2 hR.pv
  have htV:atI (as.map V.ref) ((n:Int) - 1)=some (.ref t):=by rw [qjt,ht]; rfl
  by_cases h3:x=.label
  ·subst h3
   rw [decide_eq_true rfl]
   cases eG:S.G with
   | nil=>rw [eG] at res; exact res.elim
   | cons g G=>
    rw [eG] at res
    obtain ⟨y,gs,ez⟩:∃ y gs,z.gs=y::gs:=by
     rw [eG] at hgz
     cases hz:z.gs with
     | nil=>rw [hz] at hgz; cases hgz
     | cons y gs=>exact ⟨y,gs,rfl⟩
    have hgs:=hR.gs
    rw [ez,eG] at hgs
    cases hgs with
    | cons q0 qs=>
     obtain ⟨gdx,lb,⟨c1,c1n⟩,c2,c3,c4⟩:=q0
     have hlast:atI ((z.gs.map (·.g)).reverse.map V.ref) (-1)=some (.ref y.g):=by
      rw [ez,show ((y::gs).map (·.g)).reverse.map V.ref=(gs.map (·.g)).reverse.map V.ref++[V.ref y.g] by simp]
      exact qa7 _ _
     have hlab:lb.length<1000000:=by
      have e1:=Paired.length c3
      have e2:=RM.qej (G:=S.G) (g:=g) (by rw [eG]; exact List.mem_cons_self)
      omega
     refine zU ⟨_,rfl,z.r,_,z.dx,_,_,rfl,hR.ins,T.c_Reader,T.n_Reader_begun,QO _ _ _ _ _ _,_,rfl,z.gl,_,_,_,rfl,rfl,SqL.of hR.gl,hlast,y.g,_,gdx,_,_,rfl,c1,T.c_Begun,T.n_Begun_labels,qaW _ _ _,.inl ⟨rfl,_,SqL.of c2⟩,?_⟩
     refine ⟨_,rfl,z.r,_,z.dx,_,_,rfl,hR.ins,T.c_Reader,T.n_Reader_tokens,Qv _ _ _ _ _ _,_,rfl,z.r,_,z.dx,_,_,rfl,hR.ins,T.c_Reader,T.n_Reader_at,Zl _ _ _ _ _ _,_,_,rfl,rfl,z.ts,_,_,_,rfl,rfl,SqL.of t1.1,htV,t,_,dx,_,_,rfl,ht1,T.c_Token,T.n_Token_held,qc9 _ _ _,y.la,_,_,rfl,rfl,c2,by rw [List.length_map]; exact zW (by omega),?_⟩
     have yla:z.M y.la:=z.mo (by rw [ez]; exact (zz List.mem_cons_self).1)
     have kk:qj z.M H (upd H y.la (.lst (lb.map V.ref++[.ref ha]))):=qj.at_ yla
     have yn:y.na≠y.la:=qaA c4 c2 (by intro q; cases q)
     have bx:qau a z.M (upd H y.la (.lst (lb.map V.ref++[.ref ha]))) y ⟨g.first,g.labels++[held S.pv.tok],g.names⟩:=by
      refine ⟨gdx,lb++[ha],⟨kk _ _ c1 c1n,c1n⟩,by rw [qd,List.map_append]; rfl,Q4 (c3.pass (jl kk)) ⟨kk _ _ ht2 nt2,nt2⟩,by rw [qa yn]; exact c4⟩
     obtain ⟨R2,p2⟩:=hR.head ez eG (.inl rfl) (fun c o e nc=>by rw [qa nc]; exact e) bx
     exact res _ z n rfl p2 R2
  rw [decide_eq_false h3]
  refine zr ⟨_,rfl,rfl,_,rfl,?_⟩
  rw [show V.str (Str.ofString "fresh")=V.str (QR .fresh) from rfl,Z9]
  by_cases h4:x=.fresh
  ·subst h4
   rw [decide_eq_true rfl]
   cases eG:S.G with
   | nil=>rw [eG] at res; exact res.elim
   | cons g G=>
    rw [eG] at res
    obtain ⟨y,gs,ez⟩:∃ y gs,z.gs=y::gs:=by
     rw [eG] at hgz
     cases hz:z.gs with
     | nil=>rw [hz] at hgz; cases hgz
     | cons y gs=>exact ⟨y,gs,rfl⟩
    have hgs:=hR.gs
    rw [ez,eG] at hgs
    cases hgs with
    | cons q0 qs=>
     obtain ⟨gdx,lb,⟨c1,c1n⟩,c2,c3,c4⟩:=q0
     have hlast:atI ((z.gs.map (·.g)).reverse.map V.ref) (-1)=some (.ref y.g):=by
      rw [ez,show ((y::gs).map (·.g)).reverse.map V.ref=(gs.map (·.g)).reverse.map V.ref++[V.ref y.g] by simp]
      exact qa7 _ _
     have hnm:g.names.length<=1000000:=by
      have e2:=RM.qej (G:=S.G) (g:=g) (by rw [eG]; exact List.mem_cons_self)
      omega
     have res:j9 a K z toks H (if held S.pv.tok∈g.names then some (.error ⟨5,S.pv.place⟩) else some (.ok { S with G:=⟨g.first,g.labels,g.names++[held S.pv.tok]⟩::G })) (Q .non) E:=res
     refine zU ⟨_,rfl,z.r,_,z.dx,_,_,rfl,hR.ins,T.c_Reader,T.n_Reader_begun,QO _ _ _ _ _ _,_,rfl,z.gl,_,_,_,rfl,rfl,SqL.of hR.gl,hlast,y.g,_,gdx,_,_,rfl,c1,T.c_Begun,T.n_Begun_names,qga _ _ _,?_⟩
     refine ⟨_,rfl,z.r,_,z.dx,_,_,rfl,hR.ins,T.c_Reader,T.n_Reader_tokens,Qv _ _ _ _ _ _,_,rfl,z.r,_,z.dx,_,_,rfl,hR.ins,T.c_Reader,T.n_Reader_at,Zl _ _ _ _ _ _,_,_,rfl,rfl,z.ts,_,_,_,rfl,rfl,SqL.of t1.1,htV,?_⟩
     refine ⟨y.na,t,g.names,S.pv,rfl,c4,⟨dx,ha,ht1,ht2,id,id⟩,hnm,fun hm=>?_,fun hm H2 k2 e2=>?_⟩
     ·rw [if_pos hm] at res
      exact XWM.on res (qj.refl _ _)
     ·rw [if_neg hm] at res
      have yna:z.M y.na:=z.mo (by rw [ez]; exact (zz List.mem_cons_self).2)
      have p0:Pass z.M H z.M H2:=fun b o e nb=>⟨k2 b o e (fun q=>nb (by rw [q]; exact yna)),nb⟩
      have yn:y.la≠y.na:=qaA c2 c4 (by intro q; cases q)
      have bx:qau a z.M H2 y ⟨g.first,g.labels,g.names++[held S.pv.tok]⟩:=⟨gdx,lb,p0 _ _ c1 c1n,k2 _ _ c2 yn,c3.pass p0,e2⟩
      obtain ⟨R2,p2⟩:=hR.head ez eG (.inr rfl) k2 bx
      exact res _ z n rfl p2 R2
  rw [decide_eq_false h4]
  refine zr ⟨_,rfl,rfl,_,rfl,?_⟩
  rw [show V.str (Str.ofString "enter")=V.str (QR .enter) from rfl,Z9]
  by_cases h5:x=.enter
  ·subst h5
   rw [decide_eq_true rfl]
   exact zU ⟨_,rfl,z.r,z.dx,_,rfl,hR.ins,JM _ _ _ _ _ _,z,toks,n,S,rfl,hR,res⟩
  rw [decide_eq_false h5]
  refine zr ⟨_,rfl,rfl,_,rfl,?_⟩
  rw [show V.str (Str.ofString "leave")=V.str (QR .leave) from rfl,Z9]
  by_cases h6:x=.leave
  ·subst h6
   rw [decide_eq_true rfl]
   have res:j9 a K z toks H (if S.lv=0 then none else some (.ok { S with lv:=S.lv - 1 })) (Q .non) E:=res
   by_cases h0:S.lv=0
   ·rw [if_pos h0] at res; exact res.elim
   ·rw [if_neg h0] at res
    refine zU ⟨_,rfl,z.r,_,z.dx,_,_,rfl,hR.ins,T.c_Reader,T.n_Reader_level,Jv _ _ _ _ _ _,_,_,rfl,rfl,z.dx,_,hR.ins,(by show 6<1000; decide),?_⟩
    rw [show ((S.lv:Int) - 1)=((S.lv - 1:Nat):Int) by omega]
    exact res _ z n rfl (jl (qj.at_ z.mr)) (hR.put n (S.lv - 1) S.ts S.pv hR.ts hR.pv)
  rw [decide_eq_false h6]
  obtain ⟨k,rfl⟩:∃ k,x=.fin k:=by
   cases x with
   | fin k=>exact ⟨k,rfl⟩
   | begin=>exact absurd rfl h1
   | take=>exact absurd rfl h2
   | label=>exact absurd rfl h3
   | fresh=>exact absurd rfl h4
   | enter=>exact absurd rfl h5
   | leave=>exact absurd rfl h6
  cases eG:S.G with
  | nil=>rw [eG] at res; exact res.elim
  | cons g G=>
   rw [eG] at res
   have res:j9 a K z toks H (if g.first<=S.B.length then some (.ok ⟨S.ts,S.pv,S.lv,S.W,S.B.take g.first++[.node k g.labels (S.B.drop g.first)],G⟩) else none) (Q .non) E:=res
   by_cases hf:g.first<=S.B.length
   ·rw [if_pos hf] at res
    exact zr ⟨_,rfl,z.r,z.dx,_,rfl,hR.ins,qbi _ _ _ _ _ _,_,rfl,z,toks,n,S,k,g,G,rfl,hR,hB,eG,hf,fun H' z' e p R=>res H' z' n e p R⟩
   ·rw [if_neg hf] at res; exact res.elim
end
end RT
end
section
namespace RT
open PySem PySem.Spec PyProof.Rows L2
open Vastoa (Mark Marks)
open RM (Part Sym qw kd held MS Bg)
theorem j9.on {a:Ad} {K:PySem.W.Frag} {z:RA} {toks:Marks} {H H1:Hp} {r:Option (Except Vastoa.Fault MS)} {Q:Hp->Prop} {E:XK} (h:j9 a K z toks H r Q E) (k:qj z.M H H1):j9 a K z toks H1 r Q E:=by
 unfold j9 at h ⊢
 split
 ·exact fun H' z' n' e p R=>h H' z' n' e (Zj (jl k) p) R
 ·exact XWM.from h k
 ·exact h
def qhp (a:Ad) (K:PySem.W.Frag):Sp:=fun vs H Q E=>∃ (z:RA) (toks:Marks) (n:Nat) (S:MS),vs=[.ref z.r]/\qG a H z toks n S/\RM.Fits toks.length (RM.hw toks) S/\toks.length<=5000/\(∀ s∈S.W,JA s=true)/\(∀ m∈toks,CM.Q2 m.tok=true) /\
 j9 a K z toks H (RM.step S) (Q .non) E
theorem qgl:∀ x∈allParts,∀ k∈jp,(qw x k).length<=8:=by decide +kernel
theorem qfE (s:Sym) (W:List Sym):wV (s::W)=wV W++[.str (jG s)]:=by simp [wV]
theorem qko (C W:List Sym):wV W++((C.map jG).map V.str).reverse=wV (C++W):=by
 unfold wV
 rw [List.reverse_append,List.map_append]
 simp
theorem qkp (W:List Sym):(wV W).length=W.length:=by simp [wV]
section
variable {P:Program} {w:World} {K:PySem.W.Frag} {mg:Str->Option Value} {base:Heap} {f:Addr} {fd:FuncData} {a:Ad}
theorem qcw:qo ["self","symbol","chosen"] ["self"] (qe jy):=⟨rfl,rfl,rfl,by decide +kernel,rfl,by decide +kernel,by decide +kernel⟩
theorem qju (F:Fun K "step" "Reader.step" jy f fd) (T:Tx P w K mg a) (Gc:FnAt P w K mg base CX0 2 "choose" ["part","kind"] (qeC a)) (Ga:zS P w K mg base (CXR P w) 5 a.Reader "act" ["self","action"] (qiF a K))
  (Gr:zS P w K mg base (CXR P w) 4 a.Reader "read_token" ["self","kind"] (qdg a K)):qB P w K mg base (CXR P w) 6 f fd ["self"] (qhp a K):=by
 refine F.okR qcw (fun vs H Q E h=>?_) (fun cdv A outer s H vs Q E hr h=>?_)
 ·obtain ⟨z,toks,n,S,rfl,_⟩:=h; rfl
 ·obtain ⟨z,toks,n,S,rfl,hR,hF,hlen,hW,hT,res⟩:=h
  have hr2:qE 2 _:=hr.mono (by decide)
  have hr4:qE 4 _:=hr.mono (by decide)
  refine ⟨_,qi (qU (i:=1) qcw.nd rfl (Or.inl rfl) (J1 PySem.F.plainAttrs_list PySem.F.slot_list_pop PySem.F.type_list_pop J4 (qk (pv 0) rfl)))
   (qf (qW (qdI (qkc (pv 1) (qT T.g_GRAMMAR)))
    (qi (qU (i:=2) qcw.nd rfl (Or.inl rfl) (qZ Gc hr2 qI (qc (pv 1) (qc (qk (QI jK (qk (pv 0) rfl) (qk (pv 0) rfl) (fun _ _=>rfl)) rfl) qh))))
     (qf (qt (js PySem.F.plainAttrs_list PySem.F.slot_list_extend PySem.F.type_list_extend ZE (qk (pv 0) rfl) (qc (qen (pv 2)) qh)))))
    (qf (qW (QH (qkC PySem.F.slot_str_startswith PySem.F.type_str_startswith qdl (pv 1) zh)) (qf (qt (qY Ga T.c_Reader hr jB (pv 0) (qc (Jh qjZ (pv 1) (QE qx) qiS) qh))))
     (qf (qt (qY Gr T.c_Reader hr4 jB (pv 0) (qc (pv 1) qh)))))))),?_⟩
  obtain ⟨hw1,hw2,hw3⟩:=hF.small hlen
  cases eW:S.W with
  | nil=>
   have:RM.step S=none:=by unfold RM.step; rw [eW]
   rw [this] at res; exact res.elim
  | cons y W=>
   have hwl:H z.wl=some (.lst (wV (y::W))):=by rw [<- eW]; exact hR.wl
   refine ⟨_,rfl,z.r,_,z.dx,_,_,rfl,hR.ins,T.c_Reader,T.n_Reader_waiting,Zx _ _ _ _ _ _,.inl ⟨rfl,_,SqL.of hwl⟩,z.wl,_,.str (jG y),rfl,rfl,hwl,by rw [qfE]; simp,?_⟩
   rw [show (wV (y::W)).dropLast=wV W by rw [qfE]; simp]
   have R1:=hR.putW W
   have k1:qj z.M H (upd H z.wl (.lst (wV W))):=qj.at_ z.mw
   have res1:=res.on k1
   have hwl1:(upd H z.wl (.lst (wV W))) z.wl=some (.lst (wV W)):=qd
   generalize upd H z.wl (.lst (wV W))=H1 at R1 k1 res1 hwl1 ⊢
   have hlW:W.length<=200000:=by rw [eW] at hw1; simp at hw1; omega
   refine ⟨_,rfl,a.GRAMMAR,_,Sum.inr (jG y),rfl,T.d_GRAMMAR,rfl,_,rfl,?_⟩
   rw [qcs]
   cases y with
   | p x=>
    rw [if_pos (show jG (.p x)∈Qm.map (·.1) from qeB x (Qi x))]
    cases hS:S.ts with
    | nil=>
     have:RM.step S=none:=by unfold RM.step; rw [eW,hS]
     rw [this] at res; exact res.elim
    | cons m r=>
     have est:RM.step S=some (.ok { S with W:=qw x (kd m.tok)++W }):=by unfold RM.step; rw [eW,hS]
     rw [est] at res1
     obtain ⟨as,t1,t2⟩:=R1.tks
     obtain ⟨e1,e2⟩:=JC (hS.symm.trans hR.ts)
     obtain ⟨t,ht,dx,ha,ht1,ht2,_,_⟩:=jk t2 e1
     have hm:=hT m (List.mem_of_getElem? e1)
     refine zU ⟨_,rfl,_,rfl,z.r,_,z.dx,_,_,rfl,R1.ins,T.c_Reader,T.n_Reader_tokens,Qv _ _ _ _ _ _,_,rfl,z.r,_,z.dx,_,_,rfl,R1.ins,T.c_Reader,T.n_Reader_at,Zl _ _ _ _ _ _,z.ts,_,_,_,rfl,rfl,SqL.of t1.1,QF (v:=V.ref t) (by rw [List.getElem?_map,ht]; rfl),t,_,dx,_,_,rfl,ht1,T.c_Token,T.n_Token_kind,qc8 _ _ _,?_⟩
     refine ⟨x,kd m.tok,by rw [qcr]; rfl,Jz hm,fun H2 p s2 hp hp2=>?_⟩
     have R2:=R1.same s2
     refine ⟨_,rfl,z.r,_,z.dx,_,_,rfl,R2.ins,T.c_Reader,T.n_Reader_waiting,Zx _ _ _ _ _ _,.inl ⟨rfl,_,SqL.of (s2 _ _ hwl1)⟩,_,rfl,p,_,rfl,SqL.of hp2,fun q hq=>?_⟩
     have s3:=qH (o:=.lst (((qw x (kd m.tok)).map jG).map V.str).reverse) hq
     refine ⟨z.wl,q,_,_,rfl,rfl,s3 _ _ (s2 _ _ hwl1),qd,?_,?_⟩
     ·rw [qkp,List.length_reverse,List.length_map,List.length_map]
      have hc:(qw x (kd m.tok)).length<=8:=by
       have:=qgl x (Qi x) _ (Jz hm)
       exact this
      have:(1000000:Nat)<sizeLine:=by decide
      omega
     ·rw [qko]
      have R4:=(R2.same s3).putW (qw x (kd m.tok)++W)
      exact res1 _ z n rfl (Zj (ZK (s2.trans s3)) (jl (qj.at_ z.mw))) R4
   | t k=>
    have hk:k∈jp:=List.contains_iff_mem.mp (hW (.t k) (by rw [eW]; exact List.mem_cons_self))
    rw [if_neg (show ¬ jG (.t k)∈Qm.map (·.1) from qjo k hk)]
    refine zr ⟨_,rfl,⟨_,rfl⟩,_,_,rfl,rfl,_,rfl,?_⟩
    rw [show Txt.startswith (jG (.t k)) "@" = false from qkl k hk]
    cases hS:S.ts with
    | nil=>
     have:RM.step S=none:=by unfold RM.step; rw [eW,hS]
     rw [this] at res; exact res.elim
    | cons m r=>
     have est:RM.step S=(if kd m.tok=k then some (.ok ⟨r,m,S.lv,W,S.B,S.G⟩) else some (.error ⟨3,m.place⟩)):=by unfold RM.step; rw [eW,hS]
     rw [est] at res1
     obtain ⟨e1,e2⟩:=JC (hS.symm.trans hR.ts)
     exact zr ⟨_,rfl,z.r,z.dx,_,rfl,R1.ins,qaj _ _ _ _ _ _,_,rfl,z,toks,n,{ S with W:=W },k,m,r,rfl,R1,hk,hT m (List.mem_of_getElem? e1),hS,res1⟩
   | a x=>
    rw [if_neg (show ¬ jG (.a x)∈Qm.map (·.1) from qjp x (JB x))]
    obtain ⟨a1,a2,a3⟩:=qkk x (JB x)
    refine zr ⟨_,rfl,⟨_,rfl⟩,_,_,rfl,rfl,_,rfl,?_⟩
    rw [show Txt.startswith (jG (.a x)) (Str.ofString "@")=true from a1]
    have est:RM.step S=RM.Jn x S.ts S.pv S.lv W S.B S.G:=by unfold RM.step; rw [eW]
    rw [est] at res1
    refine zU ⟨_,rfl,z.r,z.dx,_,rfl,R1.ins,qe6 _ _ _ _ _ _,_,rfl,_,rfl,jG (.a x),rfl,Nat.le_of_lt (QG a3),?_⟩
    rw [show qdZ (jG (.a x)) (some 1) none=QR x from a2]
    exact ⟨z,toks,n,{ S with W:=W },x,rfl,R1,(by show S.B.length<=1000000; omega),(by show RM.gw S.G<=500000; omega),res1⟩
end
end RT
end
section
namespace RT
open PySem PySem.Spec PyProof.Rows L2
open Vastoa (Mark Marks)
open RM (Part Sym qw kd held MS Bg)
def qeG (toks:Marks) (pv:Mark):MS:=⟨toks,pv,0,[.p .EXPR,.t .fin],[],[]⟩
def qav (a:Ad):Sp:=fun vs H Q E=>∃ (r dx tl:Addr) (as:List Addr) (toks:Marks) (pv:Mark),vs=[.ref r,.ref tl]/\H r=some (.ins a.Reader dx [])/\H tl=some (.lst (as.map V.ref))/\Paired (jE a M0 H) as toks/\atI toks (-1)=some pv /\
 ∀ H' z,z.r=r->(∀ b,z.M b->b=r \/ H b=none)->(∀ b o,H b=some o->b≠r->H' b=some o)->qG a H' z toks 0 (qeG toks pv)->Q .non H'
def qhq (a:Ad) (K:PySem.W.Frag):Sp:=fun vs H Q E=>∃ (t:Addr) (T:Vastoa.Tree),vs=[.ref t]/\zk a M0 H T t/\(40<Vastoa.depth T->XW K a.Refusal H 6 0 E)/\(¬ 40<Vastoa.depth T->Q .non H)
def qaw (a:Ad) (K:PySem.W.Frag):Sp:=fun vs H Q E=>∃ (ta:Addr) (txt:List Nat),vs=[.ref ta]/\SqL K H ta (nt txt) /\
 (∀ T,Vastoa.read txt=.ok T->RM.good T=true->RM.tw T<=200000->RM.lw T<=2048->∀ H' t,qM H H'->zk a M0 H' T t->Q (.ref t) H')/\∀ x,Vastoa.read txt=.error x->XW K a.Refusal H (x.kind:Int) (x.place:Int) E
def qaM (ts:Marks):Except Vastoa.Fault Vastoa.Tree:=(Vastoa.level Vastoa.DEEP ts).bind fun e=>(Vastoa.expect .fin e.2).bind fun _=>.ok e.1
theorem qhr {txt:List Nat} (h:2048<txt.length):Vastoa.read txt=.error ⟨1,0⟩:=by unfold Vastoa.read; rw [if_pos (show Vastoa.MOST<txt.length from h)]
theorem qij {txt:List Nat} {x:Vastoa.Fault} (h:¬ 2048<txt.length) (e:Vastoa.tokens txt=.error x):Vastoa.read txt=.error x:=by unfold Vastoa.read; rw [if_neg (show ¬ Vastoa.MOST<txt.length from h),e]; rfl
theorem qhs {txt:List Nat} {ts:Marks} (h:¬ 2048<txt.length) (e:Vastoa.tokens txt=.ok ts):Vastoa.read txt=(qaM ts).bind fun t=>if 40<Vastoa.depth t then .error ⟨6,0⟩ else .ok t:=by
 unfold Vastoa.read qaM
 rw [if_neg (show ¬ Vastoa.MOST<txt.length from h),e]
 show (Vastoa.level Vastoa.DEEP ts).bind _=_
 cases Vastoa.level Vastoa.DEEP ts with
 | error x=>rfl
 | ok e=>
  show (Vastoa.expect .fin e.2).bind _=((Vastoa.expect .fin e.2).bind _).bind _
  cases Vastoa.expect .fin e.2 with
  | error x=>rfl
  | ok u=>rfl
theorem qik {S S':MS} (h:∀ s∈S.W,JA s=true) (ht:∀ m∈S.ts,CM.Q2 m.tok=true) (e:RM.step S=some (.ok S')):∀ s∈S'.W,JA s=true:=by
 obtain ⟨ts,pv,lv,W,B,G⟩:=S
 cases W with
 | nil=>cases e
 | cons y W=>
  have hW:∀ s∈W,JA s=true:=fun s hs=>h s (List.mem_cons_of_mem _ hs)
  cases y with
  | p x=>
   cases ts with
   | nil=>cases e
   | cons m r=>
    cases e
    intro s hs
    rcases List.mem_append.mp hs with hs | hs
    ·exact List.all_eq_true.mp (qhh x (Qi x) _ (Jz (ht m List.mem_cons_self))) s hs
    ·exact hW s hs
  | t k=>
   cases ts with
   | nil=>cases e
   | cons m r=>
    have e:(if kd m.tok=k then some (.ok ⟨r,m,lv,W,B,G⟩) else some (.error ⟨3,m.place⟩):Option (Except Vastoa.Fault MS))=some (Except.ok S'):=e
    split at e
    ·cases e; exact hW
    ·cases e
  | a x=>
   have e:RM.Jn x ts pv lv W B G=some (.ok S'):=e
   unfold RM.Jn at e
   split at e
   ·cases e; exact hW
   ·split at e
    ·cases e
    ·cases e; exact hW
   ·split at e
    ·cases e
    ·cases e; exact hW
   ·split at e
    ·cases e
    ·split at e
     ·cases e
     ·cases e; exact hW
   ·split at e
    ·cases e
    ·split at e
     ·cases e
     ·cases e; exact hW
   ·split at e
    ·cases e
    ·cases e; exact hW
   ·split at e
    ·cases e
    ·split at e
     ·cases e; exact hW
     ·cases e
theorem qjv {α : Type} {l:List α} (h:l≠[]):∃ y,atI l (-1)=some y:=by
 obtain ⟨l',y,rfl⟩:∃ l' y,l=l'++[y]:=⟨l.dropLast,l.getLast h,(List.dropLast_concat_getLast h).symm⟩
 exact ⟨y,qa7 _ _⟩
section
variable {P:Program} {w:World} {K:PySem.W.Frag} {mg:Str->Option Value} {base:Heap} {f:Addr} {fd:FuncData} {a:Ad}
theorem qcx:qo ["self","tokens"] ["self","tokens"] (qe jx):=⟨rfl,rfl,rfl,by decide +kernel,rfl,by decide +kernel,by decide +kernel⟩
theorem qcy (F:Fun K "__init__" "Reader.__init__" jx f fd) (T:Tx P w K mg a):qB P w K mg base CX0 1 f fd ["self","tokens"] (qav a):=by
 refine F.ok qcx (fun vs H Q E h=>?_) (fun cdv A outer s H vs Q E hr h=>?_)
 ·obtain ⟨r,dx,tl,as,toks,pv,rfl,_⟩:=h; rfl
 ·obtain ⟨r,dx,tl,as,toks,pm,rfl,hc,htl,hts,hpv,k⟩:=h
  refine ⟨_,qi (zc (pv 0) (pv 1) rfl) (qi (zc (pv 0) qx rfl) (qi (zc (pv 0) qx rfl) (qi (zc (pv 0) (zo (qc zh (qc zh qh))) rfl) (qi (zc (pv 0) (zo qh) rfl) (qf (zc (pv 0) (zo qh) rfl)))))),?_⟩
  refine ⟨_,rfl,_,rfl,r,_,dx,_,rfl,hc,T.c_Reader,T.n_Reader_tokens,(by show 0<1000; decide),?_⟩
  refine ⟨_,rfl,r,_,dx,_,rfl,qd,T.c_Reader,T.n_Reader_at,(by show 1<1000; decide),?_⟩
  refine ⟨_,rfl,r,_,dx,_,rfl,qd,T.c_Reader,T.n_Reader_level,(by show 2<1000; decide),?_⟩
  rw [jm,jm]
  have k1:∀ b o,H b=some o->b≠r->(upd H r (.ins a.Reader dx (qL "level" (.int 0) (qL "at" (.int 0) (qL "tokens" (.ref tl) []))))) b=some o:=fun b o e n=>by rw [qa n]; exact e
  have f1:∀ b,(upd H r (.ins a.Reader dx (qL "level" (.int 0) (qL "at" (.int 0) (qL "tokens" (.ref tl) []))))) b=none->H b=none/\b≠r:=fun b e=>by
   have:b≠r:=fun y=>by rw [y,qd] at e; cases e
   rw [qa this] at e; exact ⟨e,this⟩
  have r1:(upd H r (.ins a.Reader dx (qL "level" (.int 0) (qL "at" (.int 0) (qL "tokens" (.ref tl) []))))) r=some _:=qd
  generalize upd H r (.ins a.Reader dx (qL "level" (.int 0) (qL "at" (.int 0) (qL "tokens" (.ref tl) []))))=H1 at k1 f1 r1 ⊢
  refine ⟨(by show 2<=sizeLine; decide),fun wl hwl=>?_⟩
  obtain ⟨w1,w2⟩:=f1 wl hwl
  refine ⟨_,rfl,r,_,dx,_,rfl,(qa (Ne.symm w2)).trans r1,T.c_Reader,T.n_Reader_waiting,(by show 3<1000; decide),?_⟩
  refine ⟨Nat.zero_le _,fun bl hbl=>?_⟩
  have b2:bl≠r:=fun y=>by rw [y,qd] at hbl; cases hbl
  rw [qa b2] at hbl
  have b3:bl≠wl:=fun y=>by rw [y,qd] at hbl; cases hbl
  rw [qa b3] at hbl
  obtain ⟨b1,_⟩:=f1 bl hbl
  refine ⟨_,rfl,r,_,dx,_,rfl,(qa (Ne.symm b2)).trans qd,T.c_Reader,T.n_Reader_built,(by show 4<1000; decide),?_⟩
  refine ⟨Nat.zero_le _,fun gl hgl=>?_⟩
  have g2:gl≠r:=fun y=>by rw [y,qd] at hgl; cases hgl
  rw [qa g2] at hgl
  have g4:gl≠bl:=fun y=>by rw [y,qd] at hgl; cases hgl
  rw [qa g4,qa g2] at hgl
  have g3:gl≠wl:=fun y=>by rw [y,qd] at hgl; cases hgl
  rw [qa g3] at hgl
  obtain ⟨g1,_⟩:=f1 gl hgl
  refine ⟨_,rfl,r,_,dx,_,rfl,(qa (Ne.symm g2)).trans qd,T.c_Reader,T.n_Reader_begun,(by show 5<1000; decide),?_⟩
  have inM:∀ b,(⟨r,dx,tl,wl,bl,gl,[]⟩:RA).M b->b=r \/ H b=none:=fun b hb=>by
   rcases hb with hb | hb
   ·exact .inl hb
   ·have hb:b∈[wl,bl,gl]:=hb
    simp only [List.mem_cons,List.not_mem_nil,or_false] at hb
    rcases hb with rfl | rfl | rfl
    ·exact .inr w1
    ·exact .inr b1
    ·exact .inr g1
  have keep:∀ b o,H b=some o->b≠r->upd (upd (upd (upd (upd (upd H1 wl (.lst [.str "end",.str "EXPR"])) r (.ins a.Reader dx (qL "waiting" (.ref wl) (qL "level" (.int 0) (qL "at" (.int 0) (qL "tokens" (.ref tl) [])))))) bl (.lst [])) r (.ins a.Reader dx (qL "built" (.ref bl) (qL "waiting" (.ref wl) (qL "level" (.int 0) (qL "at" (.int 0) (qL "tokens" (.ref tl) []))))))) gl (.lst [])) r (.ins a.Reader dx (Qs (.ref tl) (.int 0) (.int 0) (.ref wl) (.ref bl) (.ref gl))) b=some o:=fun b o e n=>by
   rw [qa n,qa (qg e g1),qa n,qa (qg e b1),qa n,qa (qg e w1)]; exact k1 b o e n
  have pass:∀ b o,H b=some o->(∀ d,o≠.ins a.Reader d [])->¬ (⟨r,dx,tl,wl,bl,gl,[]⟩:RA).M b:=fun b o e ni y=>by
   rcases inM b y with y | y
   ·rw [y,hc] at e; cases e; exact ni _ rfl
   ·rw [y] at e; cases e
  have ner:∀ b o,H b=some o->(∀ d,o≠.ins a.Reader d [])->b≠r:=fun b o e ni y=>pass b o e ni (.inl y)
  refine k _ ⟨r,dx,tl,wl,bl,gl,[]⟩ rfl inM keep ⟨qd,⟨as,⟨keep _ _ htl (ner _ _ htl fun d q=>by cases q),pass _ _ htl fun d q=>by cases q⟩,?_⟩,?_,⟨[],?_,?_⟩,?_,.nil,?_,rfl,hpv⟩
  ·refine qQ (fun t m q=>?_) hts
   obtain ⟨d,ha,q1,q2,_,_⟩:=q
   have i1:∀ d',HO.ins a.Token d (tokF (.str (ju m.tok)) (.int m.place) (.ref ha))≠.ins a.Reader d' []:=fun d' q=>by injection q with _ _ q; cases q
   exact ⟨d,ha,keep _ _ q1 (ner _ _ q1 i1),keep _ _ q2 (ner _ _ q2 fun d q=>by cases q),pass _ _ q1 i1,pass _ _ q2 fun d q=>by cases q⟩
  ·show upd _ r _ wl=_
   rw [qa w2,qa (Ne.symm g3),qa w2,qa (Ne.symm b3),qa w2,qd]; rfl
  ·show upd _ r _ bl=_
   rw [qa b2,qa (Ne.symm g4),qa b2,qd]; rfl
  ·unfold qeG qu; rfl
  ·show upd _ r _ gl=_
   rw [qa g2,qd]; rfl
  ·show [wl,bl,gl].Nodup
   exact List.nodup_cons.mpr ⟨by simp only [List.mem_cons,List.not_mem_nil,or_false,not_or]; exact ⟨Ne.symm b3,Ne.symm g3⟩,List.nodup_cons.mpr ⟨by simp only [List.mem_cons,List.not_mem_nil,or_false]; exact Ne.symm g4,List.nodup_cons.mpr ⟨by simp,List.nodup_nil⟩⟩⟩
theorem qcz:qo ["tree"] ["tree"] (qe jv):=⟨rfl,rfl,rfl,by decide +kernel,rfl,by decide +kernel,by decide +kernel⟩
theorem qcA (F:Fun K "refuse_deep" "refuse_deep" jv f fd) (T:Tx P w K mg a) (Gx:QA P w K mg base 2 a.TreeTooDeep "TreeTooDeep" ["self"] (spX a.TreeTooDeep 6 false)):qB P w K mg base (CXR P w) 4 f fd ["tree"] (qhq a K):=by
 refine F.okR qcz (fun vs H Q E h=>?_) (fun cdv A outer s H vs Q E hr h=>?_)
 ·obtain ⟨t,U,rfl,_⟩:=h; rfl
 ·obtain ⟨t,U,rfl,hU,kx,ko⟩:=h
  refine ⟨_,qf (qW (qK qaD (qk (pv 0) rfl) (qT T.g_MOST_DEPTH) (qN _)) (qf (qbK Gx hr)) zJ),?_⟩
  obtain ⟨dx,x,y,z,ht⟩:=hU.depth
  refine ⟨_,rfl,t,_,dx,_,_,rfl,ht,T.c_Node,T.n_Node_depth,qbQ _ _ _ _,_,_,rfl,rfl,_,rfl,jr (fun e=>?_) fun e=>?_⟩
  ·have e:40<Vastoa.depth U:=by have:=of_decide_eq_true e; omega
   exact qfA T.x_TreeTooDeep T.u_TreeTooDeep T.n_TreeTooDeep_number T.n_TreeTooDeep_place (kx e)
  ·exact ko fun y=>e (decide_eq_true (by omega))
end
end RT
end
section
namespace RT
open PySem PySem.Spec PyProof.Rows L2
open Vastoa (Mark Marks)
open RM (Part Sym qw kd held MS Bg)
theorem qil:∀ s∈([.p .EXPR,.t .fin]:List Sym),JA s=true:=by decide +kernel
section
variable {P:Program} {w:World} {K:PySem.W.Frag} {mg:Str->Option Value} {base:Heap} {f:Addr} {fd:FuncData} {a:Ad}
theorem qcB:qo ["text","reader","tree"] ["text"] (qe Z3):=⟨rfl,rfl,rfl,by decide +kernel,rfl,by decide +kernel,by decide +kernel⟩
theorem qjw (F:Fun K "read" "read" Z3 f fd) (T:Tx P w K mg a) (Gx:QA P w K mg base 2 a.TextTooLong "TextTooLong" ["self"] (spX a.TextTooLong 1 false)) (Gc:FnAt P w K mg base (CXR P w) 7 "cut" ["text"] (qiE a K))
  (Gi:qbd P w K mg base CX0 1 a.Reader "Reader" ["self","tokens"] (qav a)) (Gs:zS P w K mg base (CXR P w) 6 a.Reader "step" ["self"] (qhp a K)) (Gd:FnAt P w K mg base (CXR P w) 4 "refuse_deep" ["tree"] (qhq a K)) :
  qB P w K mg base (CXR P w) 8 f fd ["text"] (qaw a K):=by
 refine F.okR qcB (fun vs H Q E h=>?_) (fun cdv A outer s H vs Q E hr h=>?_)
 ·obtain ⟨ta,txt,rfl,_⟩:=h; rfl
 ·obtain ⟨ta,txt,rfl,ht,ko,kx⟩:=h
  have hr2:qE 2 _:=hr.mono (by decide)
  have hr3:qE 3 _:=hr.mono (by decide)
  have hr4:qE 4 _:=hr.mono (by decide)
  have hr6:qE 6 _:=hr.mono (by decide)
  refine ⟨_,qi (qW (qK qaD (zG zd (by rfl) T.b_len PySem.boot_len (qc (pv 0) qh)) (qT T.g_MOST_TEXT_BYTES) (qN _)) (qf (qbK Gx hr3)) zJ)
   (qi (qU (i:=1) qcB.nd rfl (Or.inl rfl) (QD Gi hr2 qI (qc (qZ Gc hr jB (qc (pv 0) qh)) qh)))
   (qi (Qa PassesOwn.leaving (Zp (qk (pv 1) rfl) (by intro _; rfl)) (qf (qt (z7 Gs T.c_Reader hr6 jB (pv 1)))))
   (qi (qU (i:=2) qcB.nd rfl (Or.inl rfl) (QI jK (qk (pv 1) rfl) qx (fun _ _=>rfl)))
   (qi (qt (qZ Gd hr4 jB (qc (pv 2) qh)))
   (qf (zn (pv 2))))))),?_⟩
  refine ⟨_,rfl,ta,_,rfl,.inl ht,_,_,rfl,rfl,_,rfl,jr (fun hl=>?_) fun hl=>?_⟩
  ·have hl:2048<txt.length:=by have:=of_decide_eq_true hl; rw [jV] at this; omega
   exact qfA T.x_TextTooLong T.u_TextTooLong T.n_TextTooLong_number T.n_TextTooLong_place (kx _ (qhr hl))
  have hl:¬ 2048<txt.length:=fun y=>hl (decide_eq_true (by rw [jV]; omega))
  refine ⟨_,rfl,ta,txt,rfl,ht,by omega,fun H1 tl as toks s1 etk ltk htl hts=>?_,fun p hp=>kx _ (qij hl hp)⟩
  obtain ⟨hEnds,hok⟩:=CM.qe1 etk
  have hrt:=qhs hl etk
  have hne:toks≠[]:=by
   obtain ⟨pre,q,e,_⟩:=hEnds
   rw [e]; simp
  obtain ⟨pm,hpm⟩:=qjv hne
  intro r dx hrn hdx hneq
  have s2:qM H1 (upd (upd H1 dx (.own r)) r (.ins a.Reader dx [])):=fun b o e=>by rw [qa (qg e hrn),qa (qg e hdx)]; exact e
  refine ⟨r,dx,tl,as,toks,pm,rfl,qd,s2 _ _ htl,qQ (fun t m q=>q.keep (qj.of s2)) hts,hpm,fun H2 z ez inM k2 R2=>⟨rfl,?_⟩⟩
  have s3:qM H1 H2:=fun b o e=>k2 b o (s2 b o e) (qg e hrn)
  have out:∀ b o,H1 b=some o->¬ z.M b:=fun b o e y=>by
   rcases inM b y with y | y
   ·rw [y,hrn] at e; cases e
   ·rw [s2 b o e] at y; cases y
  obtain ⟨cnt,hrun⟩:=(RM.machine (Q:=fun S=>∃ e u pv',S=⟨u,pv',0,[],[e],[]⟩/\qaM toks=.ok e/\RM.good e=true) (E:=fun y=>qaM toks=.error y) (ts:=toks) (pv:=pm) hEnds (fun e u pv' h1 h2=>⟨e,u,pv',rfl,h1,h2⟩) (fun y h=>h)).count
  refine ⟨fun m σ H'=>∃ (z':RA) (n:Nat) (S:MS),σ = [some (.ref ta),some (.ref z'.r),none]/\qG a H' z' toks n S/\RM.Fits toks.length (RM.hw toks) S/\(∀ s∈S.W,JA s=true)/\(∀ b o,H1 b=some o->H' b=some o/\¬ z'.M b) /\
   RM.qcc (fun S=>∃ e u pv',S=⟨u,pv',0,[],[e],[]⟩/\qaM toks=.ok e/\RM.good e=true) (fun y=>qaM toks=.error y) m S,
   ⟨cnt,z,0,qeG toks pm,by rw [ez]; rfl,R2,RM.qf7 toks pm,qil,fun b o e=>⟨s3 b o e,out b o e⟩,hrun⟩,?_⟩
  rintro m σ H3 ⟨z3,n,S,rfl,R3,hF,hW,fr,run⟩
  refine ⟨_,rfl,z3.r,_,z3.dx,_,_,rfl,R3.ins,T.c_Reader,T.n_Reader_waiting,Zx _ _ _ _ _ _,_,.inl ⟨_,SqL.of R3.wl,rfl⟩,?_⟩
  have hts':∀ m∈S.ts,CM.Q2 m.tok=true:=fun m hm=>hok m (by rw [R3.ts] at hm; exact List.mem_of_mem_drop hm)
  have ne:∀ r',RM.step S=some r'->(!(S.W.reverse.map fun s=>V.str (jG s)).isEmpty)=true:=fun r' e=>by
   cases hw:S.W with
   | nil=>unfold RM.step at e; rw [hw] at e; cases e
   | cons y W=>simp
  cases run with
  | done q=>
   obtain ⟨e,u,pv',rfl,e1,e2⟩:=q
   refine zr ?_
   obtain ⟨bs,b1,b2⟩:=R3.bl
   have b2:qu a z3.M H3 [e] bs:=b2
   unfold qu at b2
   obtain ⟨t,r',rfl,hT,h0⟩:=b2
   unfold qu at h0
   subst h0
   refine ⟨_,rfl,z3.r,_,z3.dx,_,_,rfl,R3.ins,T.c_Reader,T.n_Reader_built,Qn _ _ _ _ _ _,z3.bl,_,_,_,rfl,rfl,SqL.of b1,QF (j:=0) (v:=V.ref t) rfl,?_⟩
   have hT0:zk a M0 H3 e t:=zk.pass (fun b o e _=>⟨e,id⟩) _ _ hT
   rw [e1] at hrt
   refine ⟨_,rfl,t,e,rfl,hT0,fun hd=>?_,fun hd=>?_⟩
   ·have:Vastoa.read txt=.error ⟨6,0⟩:=by rw [hrt]; show (if 40<Vastoa.depth e then _ else _)=_; rw [if_pos hd]
    exact fun C dx' H' s' x=>kx _ this C dx' H' ((s1.trans fun b o e=>(fr b o e).1).trans s') x
   ·have:Vastoa.read txt=.ok e:=by rw [hrt]; show (if 40<Vastoa.depth e then _ else _)=_; rw [if_neg hd]
    have hb:=hF.tree (by omega)
    have hh:=CM.qe4 etk
    have e3:RM.tw e<=200000:=by have:=hb.1; simp only [RM.jF] at this; omega
    have e4:RM.lw e<=2048:=by have:=hb.2; simp only [RM.Qc] at this; omega
    exact ⟨_,rfl,ko e this e2 e3 e4 H3 t (s1.trans fun b o e=>(fr b o e).1) hT0⟩
  | @next k S0 S' e run'=>
   rw [ne _ e]
   refine zU ⟨_,fun σ' H' q=>q,?_⟩
   refine ⟨_,rfl,z3.r,z3.dx,_,rfl,R3.ins,qai _ _ _ _ _ _,z3,toks,n,S,rfl,R3,hF,by omega,hW,hok,?_⟩
   rw [e]
   exact fun H' z' n' er p R=>⟨k,Nat.lt_succ_self _,z',n',S',by rw [er],R,hF.step e,qik hW hts' e,fun b o eb=>p b o (fr b o eb).1 (fr b o eb).2,run'⟩
  | @fail k S0 x e hx=>
   rw [ne _ e]
   refine zU ⟨_,fun σ' H' q=>q,?_⟩
   refine ⟨_,rfl,z3.r,z3.dx,_,rfl,R3.ins,qai _ _ _ _ _ _,z3,toks,n,S,rfl,R3,hF,by omega,hW,hok,?_⟩
   rw [e]
   rw [hx] at hrt
   exact fun C dx' H' k' x'=>kx x hrt C dx' H' (s1.trans fun b o eb=>k' b o (fr b o eb).1 (fr b o eb).2) x'
end
end RT
end
section
namespace L2
open PySem PySem.Spec PyProof.Rows
def qdD:List Str->List Value->Bool
 | [],[]=>true
 | x::xs,.str y _::us=>x == y&&qdD xs us
 | _,_=>false
theorem qdi:∀ {xs:List Str} {us:List Value},qdD xs us=true->qv (xs.map V.str) us
 | [],[],_=>.nil
 | x::xs,.str y t::us,h=>by
  simp only [qdD,Bool.and_eq_true,beq_iff_eq] at h
  obtain ⟨rfl,h⟩:=h
  exact .cons ⟨t,rfl⟩ (qdi h)
def qaN (K:PySem.W.Frag) (a:Addr) (xs:List Str):Bool:=match K.lookup a with
 | some ⟨.type ty,_,.seq its _,_⟩=>ty == "tuple" && decide (its.size<=1000)&&qdD xs its.toList
 | _=>false
theorem qaO {K:PySem.W.Frag} {a:Addr} {xs:List Str} (h:qaN K a xs=true):qbe K a (xs.map V.str):=by
 unfold qaN at h
 split at h
 ·rename_i ty _ its n sl e
  simp only [Bool.and_eq_true,beq_iff_eq,decide_eq_true_eq] at h
  obtain ⟨⟨rfl,h2⟩,h3⟩:=h
  exact ⟨_,its,n,e,rfl,rfl,Nat.le_of_lt (QG h2),qdi h3⟩
 ·cases h
def Q6 (K:PySem.W.Frag) (C S:Addr):Bool:=(PySem.W.clsIn K C).any fun cd=>cd.mro.contains (.ref S)
theorem Zd {K:PySem.W.Frag} {C S:Addr} (h:Q6 K C S=true):subB K C S:=by
 unfold Q6 at h
 cases e:PySem.W.clsIn K C with
 | none=>rw [e] at h; cases h
 | some cd=>rw [e] at h; exact ⟨cd,e,h⟩
def qbY (w:World) (kv:Key × V) (e:DictEntry):Prop:=e.hash=qhz w kv.1/\Zg kv.1 e.key=true/\RelV kv.2 e.val
theorem qbk {P:Program} {w:World} {K:PySem.W.Frag} {a:Addr} {es:Array DictEntry} {ep:Nat} {kvs:List (Key × V)} (lk:K.lookup a=some ⟨.type "dict",none,.dict es ep,#[]⟩) (ha:(a == sysModules)=false) (h:Paired (qbY w) kvs es.toList) (nd:(kvs.map (·.1)).Nodup) :
  QN P w K a kvs:=by
 have key:∀ {l:List (Key × V)} {m:List DictEntry},Paired (qbY w) l m->∃ vs:List (Key × Value),KV l vs/\Pairs (zI P w) m vs/\vs.map (·.1)=l.map (·.1)/\∀ e∈m,∃ k,Zg k e.key=true/\e.hash=qhz w k:=by
  intro l m q
  induction q with
  | nil=>exact ⟨[],.nil,.nil,rfl,fun e he=>by cases he⟩
  | @cons kv e l m q t ih=>
   obtain ⟨vs,h1,h2,h3,h4⟩:=ih
   obtain ⟨q1,q2,q3⟩:=q
   refine ⟨(kv.1,e.val)::vs,.cons ⟨rfl,q3⟩ h1,.cons q2 rfl h2,by rw [List.map_cons,List.map_cons,h3],fun e' he=>?_⟩
   rcases List.mem_cons.mp he with rfl | he
   ·exact ⟨kv.1,q2,q1⟩
   ·exact h4 e' he
 obtain ⟨vs,h1,h2,h3,h4⟩:=key h
 refine ⟨ha,vs,h1,fun hp hk=>⟨_,es,ep,hk _ _ lk,⟨rfl,rfl,rfl⟩,rfl,fun e he=>h4 e (Array.mem_toList_iff.mpr he),h2,by rw [h3]; exact nd⟩⟩
theorem qht {K:PySem.W.Frag} {h:Heap} {mg:Str->Option Value} {n:Str} {u:Value} {v:V} (X:K.In h) (G:h.Ns mainGlobals mg) (e:PySem.W.nsIn K mainGlobals n=some (some u)) (r:RelV v u):GlV mg n v:=⟨u,PySem.W.mg_of X G e,r⟩
theorem zy {K:PySem.W.Frag} {h:Heap} {mg:Str->Option Value} {n:Str} {i:Int} {t:Tok} (X:K.In h) (G:h.Ns mainGlobals mg) (e:PySem.W.nsIn K mainGlobals n=some (some (.int i t))):GlV mg n (.int i):=qht X G e ⟨t,rfl⟩
theorem Zn {K:PySem.W.Frag} {h:Heap} {mg:Str->Option Value} {n:Str} {a:Addr} (X:K.In h) (G:h.Ns mainGlobals mg) (e:PySem.W.nsIn K mainGlobals n=some (some (.ref a))):GlV mg n (.ref a):=qht X G e rfl
def qeH (es:Array DictEntry) (x:Str):Addr:=match es.toList.find? fun e=>Zg (Sum.inr x) e.key with
 | some ⟨_,_,.ref a⟩=>a
 | _=>0
end L2
namespace RT
open PySem PySem.Spec PyProof.Rows L2
theorem qfF (l:List Int) (h:NeutralIO.bytes l=true):nt (VastoaNeutral.text l)=l.map V.int:=by
 unfold nt VastoaNeutral.text
 rw [List.map_map]
 refine List.map_congr_left fun x hx=>?_
 have:=List.all_eq_true.mp h x hx
 simp only [Bool.and_eq_true,decide_eq_true_eq] at this
 show V.int ((x.toNat:Nat):Int)=V.int x
 rw [Int.toNat_of_nonneg this.1]
end RT
end
section
namespace RT
open PySem PySem.Spec PyProof.Rows L2
abbrev VT:=Vastoa.Tree
mutual
def pre:VT->List VT
 | .node k ls l=>.node k ls l::preOf l
def preOf:List VT->List VT
 | []=>[]
 | t::r=>pre t++preOf r
end
theorem ZC:∀ a b:List VT,preOf (a++b)=preOf a++preOf b
 | [],b=>by simp [preOf]
 | t::r,b=>by simp only [List.cons_append,preOf,ZC r b,List.append_assoc]
def rowOf:VT->List Nat
 | .node k ls l=>k.number::ls.length::(ls.flatMap (fun x=>x.length::x)++[l.length])
mutual
theorem qbl:∀ T:VT,Vastoa.rows T=(pre T).flatMap rowOf
 | .node k ls l=>by
  unfold Vastoa.rows pre
  rw [List.flatMap_cons,qbZ l]
  simp [rowOf]
theorem qbZ:∀ l:List VT,Vastoa.rowsOf l=(preOf l).flatMap rowOf
 | []=>by unfold Vastoa.rowsOf preOf; rfl
 | t::r=>by unfold Vastoa.rowsOf preOf; rw [List.flatMap_append,qbl t,qbZ r]
end
theorem qeI:∀ ls:List (List Nat),(ls.flatMap fun x=>x.length::x).length=ls.length+(ls.map List.length).sum
 | []=>rfl
 | x::r=>by rw [List.flatMap_cons,List.length_append,qeI r]; simp; omega
mutual
theorem qhu:∀ T:VT,(pre T).length<=RM.tw T
 | .node k ls l=>by have:=qeJ l; unfold pre RM.tw; rw [List.length_cons]; omega
theorem qeJ:∀ l:List VT,(preOf l).length<=RM.jF l
 | []=>by unfold preOf; exact Nat.zero_le _
 | t::r=>by have:=qhu t; have:=qeJ r; unfold preOf RM.jF; rw [List.length_append]; omega
end
mutual
theorem qeK:∀ T:VT,(Vastoa.rows T).length<=3 * RM.tw T+RM.lw T
 | .node k ls l=>by
  have:=qb0 l
  unfold Vastoa.rows RM.tw RM.lw
  simp only [List.length_cons,List.length_append,qeI]
  omega
theorem qb0:∀ l:List VT,(Vastoa.rowsOf l).length<=3 * RM.jF l+RM.Qc l
 | []=>by unfold Vastoa.rowsOf; exact Nat.zero_le _
 | t::r=>by have:=qeK t; have:=qb0 r; unfold Vastoa.rowsOf RM.jF RM.Qc; rw [List.length_append]; omega
end
theorem qax {a:Ad} {M:Addr->Prop} {H:Hp}:∀ {l1 l2:List VT} {k1 k2:List Addr},qu a M H l1 k1->qu a M H l2 k2->qu a M H (l1++l2) (k1++k2)
 | [],l2,k1,k2,h1,h2=>by unfold qu at h1; subst h1; exact h2
 | t::l1,l2,k1,k2,h1,h2=>by
  unfold qu at h1
  obtain ⟨k,r,rfl,h,h1⟩:=h1
  show qu a M H (t::(l1++l2)) (k::(r++k2))
  unfold qu
  exact ⟨k,_,rfl,h,qax h1 h2⟩
def qfG (a:Ad):Sp:=fun vs H Q E=>∃ (t:Addr) (T:VT) (M:Addr->Prop),vs=[.ref t]/\zk a M H T t/\RM.tw T<=200000/\∀ H' p ks,qM H H'->H p=none->H' p=some (.lst (ks.map V.ref))->qu a M H (pre T) ks->Q (.ref p) H'
section
variable {P:Program} {w:World} {K:PySem.W.Frag} {mg:Str->Option Value} {base:Heap} {f:Addr} {fd:FuncData} {a:Ad}
theorem Q7:qo ["tree","nodes","waiting","node"] ["tree"] (qe Qo):=⟨rfl,rfl,rfl,by decide +kernel,rfl,by decide +kernel,by decide +kernel⟩
theorem qfg (F:Fun K "nodes_of" "nodes_of" Qo f fd) (T:Tx P w K mg a):qB P w K mg base CX0 1 f fd ["tree"] (qfG a):=by
 refine F.ok Q7 (fun vs H Q E h=>?_) (fun cdv A outer s H vs Q E hr h=>?_)
 ·obtain ⟨t,U,M,rfl,_⟩:=h; rfl
 ·obtain ⟨t,U,M,rfl,hU,hw,k⟩:=h
  refine ⟨_,qi (qU (i:=1) Q7.nd rfl (Or.inl rfl) (zo qh))
   (qi (qU (i:=2) Q7.nd rfl (Or.inl rfl) (zo (qc (pv 0) qh)))
   (qi (Qa PassesOwn.never (Zp (pv 2) (by intro _; rfl))
    (qi (qU (i:=3) Q7.nd rfl (Or.inl rfl) (J1 PySem.F.plainAttrs_list PySem.F.slot_list_pop PySem.F.type_list_pop J4 (pv 2)))
    (qi (qt (js PySem.F.plainAttrs_list PySem.F.slot_list_append PySem.F.type_list_append zA (pv 1) (qc (pv 3) qh)))
    (qf (qt (js PySem.F.plainAttrs_list PySem.F.slot_list_extend PySem.F.type_list_extend ZE (pv 2) (qc (qen (qk (pv 3) rfl)) qh)))))))
   (qf (zn (pv 1))))),?_⟩
  refine ⟨Nat.zero_le _,fun nl hnl=>?_⟩
  refine ⟨_,rfl,(by show 1<=sizeLine; decide),fun wl hwl=>?_⟩
  have wn:wl≠nl:=fun e=>by rw [e,qd] at hwl; cases hwl
  rw [qa wn] at hwl
  have hp:=qhu U
  refine ⟨fun m σ H'=>∃ (v:Option V) (D W:List VT) (da wa:List Addr),σ = [some (.ref t),some (.ref nl),some (.ref wl),v]/\qM H H'/\H' nl=some (.lst (da.map V.ref))/\H' wl=some (.lst (wa.reverse.map V.ref))/\qu a M H D da/\qu a M H W wa/\pre U=D++preOf W/\(preOf W).length=m,
   ⟨_,none,[],[U],[],[t],rfl,fun b o e=>?_,?_,qd,?_,?_,?_,rfl⟩,?_⟩
  ·rw [qa (qg e hwl),qa (qg e hnl)]; exact e
  ·rw [qa (Ne.symm wn),qd]; rfl
  ·unfold qu; rfl
  ·unfold qu; exact ⟨t,[],rfl,hU,by unfold qu; rfl⟩
  ·simp [preOf]
  rintro m σ H1 ⟨v,D,W,da,wa,rfl,s1,hn1,hw1,tD,tW,eU,rfl⟩
  have hlen:D.length+(preOf W).length<=200000:=by rw [eU,List.length_append] at hp; omega
  have lD:da.length=D.length:=Paired.length (qP.mp tD)
  have lW:wa.length=W.length:=Paired.length (qP.mp tW)
  refine ⟨_,rfl,_,.inl ⟨_,SqL.of hw1,rfl⟩,?_⟩
  cases W with
  | nil=>
   have:wa=[]:=by cases wa with | nil=>rfl | cons _ _=>cases lW
   subst this
   refine zr ⟨_,rfl,?_⟩
   rw [preOf,List.append_nil] at eU
   rw [eU] at k
   exact k H1 nl da s1 hnl hn1 tD
  | cons X W=>
   unfold qu at tW
   obtain ⟨x,wb,rfl,tX,tW⟩:=tW
   rw [show (!((x::wb).reverse.map V.ref).isEmpty)=true by simp]
   refine zU ⟨_,fun σ' H' q=>q,?_⟩
   refine ⟨_,rfl,.inl ⟨rfl,_,SqL.of hw1⟩,wl,_,V.ref x,rfl,rfl,hw1,by simp,?_⟩
   rw [show ((x::wb).reverse.map V.ref).dropLast=wb.reverse.map V.ref by simp]
   refine ⟨_,rfl,.inl ⟨rfl,_,SqL.of ((qa (Ne.symm wn)).trans hn1)⟩,_,rfl,nl,_,_,rfl,rfl,(qa (Ne.symm wn)).trans hn1,?_,?_⟩
   ·rw [List.length_map]; exact zW (by omega)
   cases X with
   | node kd ls l=>
   have tX':=tX
   unfold zk at tX
   obtain ⟨dx,la,ka,lb,ks,⟨h1,_⟩,_,_,⟨h4,_⟩,h5⟩:=tX
   have u1:∀ {b o},H b=some o->upd (upd H1 wl (.lst (wb.reverse.map V.ref))) nl (.lst (da.map V.ref++[V.ref x])) b=some o:=fun {b o} e=>by
    rw [qa (qg e hnl),qa (qg e hwl)]; exact s1 b o e
   have w2:upd (upd H1 wl (.lst (wb.reverse.map V.ref))) nl (.lst (da.map V.ref++[V.ref x])) wl=some (.lst (wb.reverse.map V.ref)):=by rw [qa wn,qd]
   have n2:upd (upd H1 wl (.lst (wb.reverse.map V.ref))) nl (.lst (da.map V.ref++[V.ref x])) nl=some (.lst (da.map V.ref++[V.ref x])):=qd
   generalize upd (upd H1 wl (.lst (wb.reverse.map V.ref))) nl (.lst (da.map V.ref++[V.ref x]))=H2 at u1 w2 n2 ⊢
   refine ⟨_,rfl,.inl ⟨rfl,_,SqL.of w2⟩,_,rfl,x,_,dx,_,_,rfl,u1 h1,T.c_Node,T.n_Node_kids,qda _ _ _ _,ka,_,rfl,SqL.of (u1 h4),fun q hq=>?_⟩
   have s3:=qH (o:=.lst (ks.map V.ref).reverse) hq
   have lk:ks.length=l.length:=Paired.length (qP.mp h5)
   have hlen2:(preOf (Vastoa.Tree.node kd ls l::W)).length=1+(preOf (l++W)).length:=by rw [ZC]; simp only [preOf,pre,List.length_append,List.length_cons]; omega
   have lp:∀ y:List VT,y.length<=(preOf y).length:=by
    intro y
    induction y with
    | nil=>exact Nat.zero_le _
    | cons T' y ih=>cases T' with | node k' ls' l'=>simp only [preOf,pre,List.length_cons,List.length_append]; omega
   have hlw:=lp (l++W)
   rw [List.length_append] at hlw
   refine ⟨wl,q,_,_,rfl,rfl,s3 _ _ w2,qd,?_,?_⟩
   ·rw [List.length_map,List.length_reverse,List.length_reverse,List.length_map]
    have:(1000000:Nat)<sizeLine:=by decide
    simp only [List.length_cons] at lW
    omega
   ·refine ⟨_,?_,_,D++[.node kd ls l],l++W,da++[x],ks++wb,rfl,fun b o e=>?_,?_,?_,qax tD ?_,qax h5 tW,?_,rfl⟩
    ·omega
    ·rw [qa (qg e hwl)]; exact s3 _ _ (u1 e)
    ·rw [qa (Ne.symm wn)]; rw [s3 _ _ n2,List.map_append]; rfl
    ·rw [qd]; simp
    ·unfold qu; exact ⟨x,[],rfl,tX',by unfold qu; rfl⟩
    ·rw [eU,ZC]; simp [preOf,pre]
end
end RT
end
section
namespace RT
open PySem PySem.Spec PyProof.Rows L2
def zX (ls:List (List Nat)):List Nat:=ls.flatMap fun x=>x.length::x
def qhv:Sp:=fun vs H Q E=>∃ (la:Addr) (lb:List Addr) (ls:List (List Nat)),vs=[.ref la]/\H la=some (.lst (lb.map V.ref))/\ZA M0 H lb ls/\(zX ls).length<=700000/\∀ H' p,qM H H'->H p=none->H' p=some (.lst (nt (ls.length::zX ls)))->Q (.ref p) H'
def ZL (a:Ad):Sp:=fun vs H Q E=>∃ (t:Addr) (T:VT),vs=[.ref t]/\zk a M0 H T t/\RM.tw T<=200000/\RM.lw T<=2048/\∀ H' p,qM H H'->H p=none->H' p=some (.lst (nt (Vastoa.rows T)))->Q (.ref p) H'
def qdE:List (Key × V):=(["piece","num","yes","no","none","name","text","list","record","recur","get","app","neg","not","has","fn","fields","fields..","param","let","if","must","or","and","==","!=","<","<=","//","++","+","-","*"]:List String).zipIdx.map fun p=>(Sum.inr (Str.ofString p.1),V.int p.2)
theorem qim (k:Vastoa.Kind):zR qdE (Sum.inr (kindS k))=some (.int ((k.number:Nat):Int)):=by
 cases k with
 | op o=>cases o <;> kernel_rfl
 | _=>kernel_rfl
section
variable {P:Program} {w:World} {K:PySem.W.Frag} {mg:Str->Option Value} {base:Heap} {f:Addr} {fd:FuncData} {a:Ad}
theorem qcC:qo ["labels","numbers","label"] ["labels"] (qe zD):=⟨rfl,rfl,rfl,by decide +kernel,rfl,by decide +kernel,by decide +kernel⟩
theorem qfh {ls:List (List Nat)} {i:Nat} {x:List Nat} (h:ls[i]? = some x):zX (ls.take (i+1))=zX (ls.take i)++(x.length::x):=by
 unfold zX
 rw [List.take_succ,h,List.flatMap_append]
 simp
theorem qhw (ls:List (List Nat)) (i:Nat):(zX (ls.take i)).length<=(zX ls).length:=by
 have:zX ls=zX (ls.take i)++zX (ls.drop i):=by unfold zX; rw [<- List.flatMap_append,List.take_append_drop]
 rw [this,List.length_append]; omega
theorem JD (F:Fun K "numbers_of_labels" "numbers_of_labels" zD f fd) (T:Tx P w K mg a):qB P w K mg base CX0 1 f fd ["labels"] qhv:=by
 refine F.ok qcC (fun vs H Q E h=>?_) (fun cdv A outer s H vs Q E hr h=>?_)
 ·obtain ⟨la,lb,ls,rfl,_⟩:=h; rfl
 ·obtain ⟨la,lb,ls,rfl,hla,hlb,hlen,k⟩:=h
  refine ⟨_,qi (qU (i:=1) qcC.nd rfl (Or.inl rfl) (zo (qc (zG zd (by rfl) T.b_len PySem.boot_len (qc (pv 0) qh)) qh)))
   (qi (JU PassesOwn.never rfl (qb2 (pv 0)) (QS (i:=2) qcC.nd rfl (Or.inl rfl))
    (qi (qt (js PySem.F.plainAttrs_list PySem.F.slot_list_append PySem.F.type_list_append zA (pv 1) (qc (zG zd (by rfl) T.b_len PySem.boot_len (qc (pv 2) qh)) qh)))
    (qf (qt (js PySem.F.plainAttrs_list PySem.F.slot_list_extend PySem.F.type_list_extend ZE (pv 1) (qc (pv 2) qh))))))
   (qf (zn (pv 1)))),?_⟩
  have ll:lb.length=ls.length:=Paired.length hlb
  refine ⟨_,rfl,la,_,rfl,.inl (SqL.of hla),(by show 1<=sizeLine; decide),fun nl hnl=>?_⟩
  rw [show (((lb.map V.ref).length:Nat):Int)=((ls.length:Nat):Int) by rw [List.length_map,ll]]
  refine ⟨_,rfl,la,rfl,⟨_,SqL.of (qH hnl _ _ hla)⟩,qdM (K:=K) (a:=la) (xs:=lb.map V.ref) (fun i σ H'=>∃ v:Option V,σ = [some (.ref la),some (.ref nl),v]/\qM H H'/\H' nl=some (.lst (nt (ls.length::zX (ls.take i)))))
   ⟨none,rfl,qH hnl,qd⟩ (fun i σ H' _ ⟨v,_,s1,_⟩=>SqL.of (s1 _ _ hla)) ?_ ?_⟩
  ·rintro i y σ H1 hi ⟨v,rfl,s1,h1⟩
   obtain ⟨x,hx,rfl⟩:∃ x,lb[i]? = some x/\V.ref x=y:=by
    rw [List.getElem?_map] at hi
    exact Option.map_eq_some_iff.mp hi
   obtain ⟨xs,hxs,hx1,_⟩:∃ xs,ls[i]? = some xs/\H x=some (.lst (nt xs))/\¬ M0 x:=by
    have hi':i<ls.length:=by have:=(List.getElem?_eq_some_iff.mp hx).1; omega
    obtain ⟨x',e1,e2⟩:=jk hlb (List.getElem?_eq_getElem hi')
    rw [hx] at e1; cases e1
    exact ⟨_,List.getElem?_eq_getElem hi',e2⟩
   have lt:=qfh hxs
   have le:=qhw ls (i+1)
   rw [lt,List.length_append,List.length_cons] at le
   have xn:x≠nl:=qg hx1 hnl
   refine ⟨_,rfl,.inl ⟨rfl,_,SqL.of h1⟩,_,rfl,x,_,rfl,.inl (SqL.of (s1 _ _ hx1)),nl,_,_,rfl,rfl,h1,?_,?_⟩
   ·unfold nt; rw [List.length_map,List.length_cons]; exact zW (by omega)
   refine ⟨_,rfl,.inl ⟨rfl,_,SqL.of qd⟩,_,rfl,nl,x,_,_,rfl,rfl,qd,(qa xn).trans (s1 _ _ hx1),?_,?_⟩
   ·unfold nt
    simp only [List.length_append,List.length_map,List.length_cons,List.length_nil]
    have:(1000000:Nat)<sizeLine:=by decide
    omega
   ·refine ⟨_,rfl,fun b o e=>?_,?_⟩
    ·rw [qa (qg e hnl),qa (qg e hnl)]; exact s1 b o e
    ·rw [qd,lt]; unfold nt; simp
  ·rintro σ H1 ⟨v,rfl,s1,h1⟩
   refine ⟨_,rfl,k H1 nl s1 hnl ?_⟩
   rw [h1,List.length_map,ll,List.take_length]
theorem JE:qo ["tree","numbers","node"] ["tree"] (qe jL):=⟨rfl,rfl,rfl,by decide +kernel,rfl,by decide +kernel,by decide +kernel⟩
theorem qgm {l:List VT} {i:Nat} {x:VT} (h:l[i]? = some x):(l.take (i+1)).flatMap rowOf=(l.take i).flatMap rowOf++rowOf x:=by
 rw [List.take_succ,h,List.flatMap_append]
 simp
theorem qin (l:List VT) (i:Nat):((l.take i).flatMap rowOf).length<=(l.flatMap rowOf).length:=by
 have:l.flatMap rowOf=(l.take i).flatMap rowOf++(l.drop i).flatMap rowOf:=by rw [<- List.flatMap_append,List.take_append_drop]
 rw [this,List.length_append]; omega
theorem qdw (F:Fun K "numbers_of" "numbers_of" jL f fd) (T:Tx P w K mg a) {ka:Addr} (gK:GlV mg "KIND_NUMBERS" (.ref ka)) (dK:QN P w K ka qdE)
  (Gn:FnAt P w K mg base CX0 1 "nodes_of" ["tree"] (qfG a)) (Gl:FnAt P w K mg base CX0 1 "numbers_of_labels" ["labels"] qhv):qB P w K mg base CX0 2 f fd ["tree"] (ZL a):=by
 refine F.ok JE (fun vs H Q E h=>?_) (fun cdv A outer s H vs Q E hr h=>?_)
 ·obtain ⟨t,U,rfl,_⟩:=h; rfl
 ·obtain ⟨t,U,rfl,hU,hw,hl,k⟩:=h
  refine ⟨_,qi (qU (i:=1) JE.nd rfl (Or.inl rfl) (zo qh))
   (qi (JU PassesOwn.never rfl (qb2 (qZ Gn hr qI (qc (pv 0) qh))) (QS (i:=2) JE.nd rfl (Or.inl rfl))
    (qi (qt (js PySem.F.plainAttrs_list PySem.F.slot_list_append PySem.F.type_list_append zA (pv 1) (qc (qfy (qT gK) (qk (pv 2) rfl) (fun _ _=>rfl)) qh)))
    (qi (qt (js PySem.F.plainAttrs_list PySem.F.slot_list_extend PySem.F.type_list_extend ZE (pv 1) (qc (qZ Gl hr qI (qc (qk (pv 2) rfl) qh)) qh)))
    (qf (qt (js PySem.F.plainAttrs_list PySem.F.slot_list_append PySem.F.type_list_append zA (pv 1) (qc (zG zd (by rfl) T.b_len PySem.boot_len (qc (qk (pv 2) rfl) qh)) qh)))))))
   (qf (zn (pv 1)))),?_⟩
  have hrl:=qeK U
  rw [qbl] at hrl
  refine ⟨Nat.zero_le _,fun nl hnl=>?_⟩
  have s0:=qH (o:=.lst []) hnl
  have n0:upd H nl (.lst []) nl=some (.lst []):=qd
  generalize upd H nl (.lst [])=H0 at s0 n0 ⊢
  have hUM:zk a (fun b=>b=nl) H0 U t:=zk.pass (fun b o e _=>⟨s0 b o e,qg e hnl⟩) _ _ hU
  refine ⟨_,rfl,t,U,_,rfl,hUM,hw,fun H1 p ks s1 hp hp1 hks=>?_⟩
  have hnl1:=s1 _ _ n0
  have hpn:p≠nl:=fun e=>by rw [e,n0] at hp; cases hp
  have lk:ks.length=(pre U).length:=Paired.length (qP.mp hks)
  refine ⟨p,rfl,⟨_,SqL.of hp1⟩,qdM (K:=K) (a:=p) (xs:=ks.map V.ref) (fun i σ H'=>∃ v:Option V,σ = [some (.ref t),some (.ref nl),v]/\(∀ b o,H1 b=some o->b≠nl->H' b=some o)/\H' nl=some (.lst (nt (((pre U).take i).flatMap rowOf))))
   ⟨none,rfl,fun b o e _=>e,hnl1⟩ (fun i σ H' _ ⟨v,_,s2,_⟩=>SqL.of (s2 _ _ hp1 hpn)) ?_ ?_⟩
  ·rintro i y σ H2 hi ⟨v,rfl,s2,h2⟩
   obtain ⟨x,hx,rfl⟩:∃ x,ks[i]? = some x/\V.ref x=y:=by
    rw [List.getElem?_map] at hi
    exact Option.map_eq_some_iff.mp hi
   obtain ⟨X,hX,tX⟩:∃ X,(pre U)[i]? = some X/\zk a (fun b=>b=nl) H0 X x:=by
    have hi':i<(pre U).length:=by have:=(List.getElem?_eq_some_iff.mp hx).1; omega
    obtain ⟨x',e1,e2⟩:=jk (qP.mp hks) (List.getElem?_eq_getElem hi')
    rw [hx] at e1; cases e1
    exact ⟨_,List.getElem?_eq_getElem hi',e2⟩
   have lt:=qgm hX
   have le:=qin (pre U) (i+1)
   rw [lt,List.length_append] at le
   cases X with
   | node kd ls l=>
   have le2:(rowOf (Vastoa.Tree.node kd ls l)).length=3+(zX ls).length:=by simp [rowOf,zX]; omega
   have big:(1000000:Nat)<sizeLine:=by decide
   unfold zk at tX
   obtain ⟨dx,la,ka',lb,kk,⟨t1,m1⟩,⟨t2,m2⟩,t3,⟨t4,m4⟩,t5⟩:=tX
   have lk5:kk.length=l.length:=Paired.length (qP.mp t5)
   have u:∀ {b o},H0 b=some o->b≠nl->H2 b=some o:=fun {b o} e n=>s2 _ _ (s1 _ _ e) n
   have u3:∀ {b o} (y:V),H0 b=some o->b≠nl->upd H2 nl (.lst (nt (((pre U).take i).flatMap rowOf)++[y])) b=some o:=fun {b o} y e n=>(qa n).trans (u e n)
   refine ⟨_,rfl,.inl ⟨rfl,_,SqL.of h2⟩,_,rfl,x,_,dx,_,_,rfl,u t1 m1,T.c_Node,T.n_Node_kind,qg7 _ _ _ _,ka,_,Sum.inr (kindS kd),_,rfl,dK,rfl,qim kd,nl,_,_,rfl,rfl,h2,?_,?_⟩
   ·unfold nt; rw [List.length_map]; omega
   have n3:upd H2 nl (.lst (nt (((pre U).take i).flatMap rowOf)++[V.int ((kd.number:Nat):Int)])) nl=some (.lst (nt (((pre U).take i).flatMap rowOf)++[V.int ((kd.number:Nat):Int)])):=qd
   have v3:∀ {b o},H1 b=some o->b≠nl->upd H2 nl (.lst (nt (((pre U).take i).flatMap rowOf)++[V.int ((kd.number:Nat):Int)])) b=some o:=fun {b o} e n=>(qa n).trans (s2 _ _ e n)
   replace u3:=fun {b o}=>@u3 b o (V.int ((kd.number:Nat):Int))
   generalize upd H2 nl (.lst (nt (((pre U).take i).flatMap rowOf)++[V.int ((kd.number:Nat):Int)]))=H3 at u3 n3 v3 ⊢
   have t3':ZA M0 H3 lb ls:=qQ (fun x y q=>⟨u3 q.1 q.2,id⟩) t3
   refine ⟨_,rfl,.inl ⟨rfl,_,SqL.of n3⟩,_,rfl,x,_,dx,_,_,rfl,u3 t1 m1,T.c_Node,T.n_Node_labels,qe5 _ _ _ _,la,lb,ls,rfl,u3 t2 m2,t3',by omega,fun H4 q s4 hq hq4=>?_⟩
   refine ⟨nl,q,_,_,rfl,rfl,s4 _ _ n3,hq4,?_,?_⟩
   ·unfold nt; simp only [List.length_append,List.length_map,List.length_cons,List.length_nil]; omega
   have n5:upd H4 nl (.lst ((nt (((pre U).take i).flatMap rowOf)++[V.int ((kd.number:Nat):Int)])++nt (ls.length::zX ls))) nl=some (.lst ((nt (((pre U).take i).flatMap rowOf)++[V.int ((kd.number:Nat):Int)])++nt (ls.length::zX ls))):=qd
   have v5:∀ {b o},H1 b=some o->b≠nl->upd H4 nl (.lst ((nt (((pre U).take i).flatMap rowOf)++[V.int ((kd.number:Nat):Int)])++nt (ls.length::zX ls))) b=some o:=fun {b o} e n=>(qa n).trans (s4 _ _ (v3 e n))
   generalize upd H4 nl (.lst ((nt (((pre U).take i).flatMap rowOf)++[V.int ((kd.number:Nat):Int)])++nt (ls.length::zX ls)))=H5 at n5 v5 ⊢
   refine ⟨_,rfl,.inl ⟨rfl,_,SqL.of n5⟩,_,rfl,x,_,dx,_,_,rfl,v5 (s1 _ _ t1) m1,T.c_Node,T.n_Node_kids,qda _ _ _ _,ka',_,rfl,.inl (SqL.of (v5 (s1 _ _ t4) m4)),nl,_,_,rfl,rfl,n5,?_,?_⟩
   ·unfold nt; simp only [List.length_append,List.length_map,List.length_cons,List.length_nil]; omega
   ·refine ⟨_,rfl,fun b o e n=>(qa n).trans (v5 e n),?_⟩
    rw [qd,lt,List.length_map,lk5]
    unfold nt rowOf zX
    simp
  ·rintro σ H2 ⟨v,rfl,s2,h2⟩
   refine ⟨_,rfl,k H2 nl (fun b o e=>s2 _ _ (s1 _ _ (s0 _ _ e)) (qg e hnl)) hnl ?_⟩
   rw [h2,List.length_map,lk,List.take_length,qbl]
end
end RT
end
section
namespace L2
open PySem PySem.Spec PyProof.Rows
theorem Fun.okZ {P:Program} {w:World} {K:PySem.W.Frag} {mg:Str->Option Value} {base:Heap} {cz:Prop} {y qual:Str} {st:Stmt} {f:Addr} {fd:FuncData} {N ps:List Str} {k:Nat} {sp:Sp} (F:Fun K y qual st f fd) (S:qo N ps (qe st)) (len:∀ vs H Q E,sp vs H Q E->vs.length=ps.length)
  (hbody:∀ (cdv:Value) (A:Around) (outer:List Env) (s:Shared) (H:Hp) (vs:List V) (Q:VK) (E:XK),qE k (A.deeper (envOfC qual (qe st) s.heap.objs.size f cdv))->sp vs H Q E ->
   ∃ t,PSs (qF (qJ cz P w) P w K mg base N qual (qe st) f cdv A outer s H E) (qm st) t/\t { nx:=fun _ H'=>Q .non H',rt:=Q } (start N vs) H):qB P w K mg base (qJ cz P w) (k+1) f fd ps sp:=by
 obtain ⟨oc,od,kV,doc,pm,an,cdv,ct,osl,rfl,lk,hcd⟩:=F.ex
 exact qfO lk hcd S len fun A outer s H vs Q E hr hsp=>hbody cdv A outer s H vs Q E hr hsp
theorem qio {P:Program} {w:World} {outer:List Env} {H:Hp} {s:Shared} {E:XK} {e:Value} {s':Shared} (h:qJ True P w outer H s E e s'):qJ False P w outer H s E e s':=by
 obtain ⟨a,C,dx,H',B,e1,e2,e3,e4,e5,fly,r⟩:=h
 obtain ⟨f1,f2,f3,oe,vs,T,oT,ts,⟨g1,g2,g3,g4,g5,_⟩,g6⟩:=fly
 exact ⟨a,C,dx,H',B,e1,e2,e3,e4,e5,⟨f1,f2,f3,oe,vs,T,oT,ts,⟨g1,g2,g3,g4,g5,fun z=>z.elim⟩,g6⟩,r⟩
theorem qfi {X:Cx} {P:Program} {w:World} {E:XK} (h:zT (qJ False P w) X E):zT (qJ True P w) X E:=fun pins σ H s e s' I q=>h pins σ H s e s' I (qio q)
def qeL (P:Program) (w:World) (K:PySem.W.Frag) (mg:Str->Option Value) (base:Heap) (k:Nat) (C:Addr) (x m:Str) (ps:List Str) (sp:Sp):Prop :=
 ∃ f fd,mg x=some (.ref C)/\qdA K C m f/\Q0 P w K mg base CX0 k f fd ps sp/\Binds K fd ps []
theorem qip {X:Cx} {k:Nat} {C:Addr} {ps:List Str} {sp:Sp} {x m:Str} {p pos apos:Pos} {e:Expr} {es:List Expr} {t:TA} {pl:Sem Bool} (G:qeL X.prog X.w X.K X.mg X.base k C x m ps sp) (hr:jI k X.A) (ha:PA X (e::es) t) (hg:Gl X x:=by rfl)
  (hdb:(x == ("__debug__" : Str))=false:=by decide)
  (hst:starEach (e::es) X.env=(false,eval e X.env)::starEach es X.env:=by rfl) (hpl:(backTo pos (starEach es X.env)).any (·.1)=false:=by rfl)
  (ht:eval (.Call (.Attribute (.Name x p) m apos) (e::es) [] pos) X.env=(do
   let ov <- eval (.Name x p) X.env
   standAt apos.atName
   let (f,first) <- holding [ov] (getMethod ov m pl)
   callWith pos f first (backTo pos (starEach (e::es) X.env)) (backToKw pos (keywordEach [] X.env))):=by rfl) :
  PE X (.Call (.Attribute (.Name x p) m apos) (e::es) [] pos) (Qk sp [] E0 t):=by
 obtain ⟨f,fd,h1,h2,h3,h4⟩:=G
 exact qeY hg h1 h2 h3 hr h4 .nil qI ha hdb hst hpl ht
def qkq (P:Program) (w:World) (K:PySem.W.Frag) (mg:Str->Option Value) (base:Heap) (k:Nat) (C:Addr) (x:Str) (ps:List Str) (sp:Sp):Prop:=∃ f fd,mg x=some (.ref C)/\XMk K C f/\Q0 P w K mg base CX0 k f fd ps sp/\Binds K fd ps []
end L2
namespace RT
open PySem PySem.Spec PyProof.Rows L2
structure Xc (K:PySem.W.Frag) (C S:Addr):Prop where
 x:zV K C
 nn:qp K C "number"
 np:qp K C "place"
 u:subB K C S
def qeM (K:PySem.W.Frag) (C2:Addr):Sp:=fun vs H Q _=>∃ (e a C d:Addr) (xs ys:Array Value) (n p:Int),vs=[.ref e,.ref a]/\H e=some (XOb e C2 xs none)/\H a=some (XOb a C ys (some d))/\H d=some (XDi d (rfF n p))/\zV K C/\qp K C "number" /\ qp K C "place" /\
 ∀ dx H',H dx=none->dx≠e->H' e=some (XOb e C2 xs (some dx))->H' dx=some (XDi dx (rfF (10+n) p))->(∀ b o,H b=some o->b≠e->H' b=some o)->Q .non H'
def qcD (a:Ad) (K:PySem.W.Frag):Sp:=fun vs H Q E=>∃ (ta:Addr) (txt:List Nat),vs=[.ref ta]/\SqL K H ta (nt txt) /\
 (∀ T,Vastoa.read txt=.ok T->RM.good T=true->RM.tw T<=200000->RM.lw T<=2048->∀ H' t,qM H H'->zk a M0 H' T t->Q (.ref t) H')/\∀ x,Vastoa.read txt=.error x->XW K a.Refusal H (10+(x.kind:Int)) (x.place:Int) E
section
variable {P:Program} {w:World} {K:PySem.W.Frag} {mg:Str->Option Value} {base:Heap} {f:Addr} {fd:FuncData} {a:Ad} {C2:Addr}
theorem qbm (F:Fun K "__init__" "Refusal.__init__" z9 f fd):Q0 P w K mg base CX0 1 f fd ["self","number","place"] (QP K):=by
 refine F.okU ZG (fun vs H Q E h=>?_) (fun cdv A outer s H vs Q E hr h=>?_)
 ·obtain ⟨e,C,xs,n,p,rfl,_⟩:=h; rfl
 ·obtain ⟨e,C,xs,n,p,rfl,he,hC,n1,n2,k⟩:=h
  refine ⟨_,qi (qd0 (pv 0) (pv 1) rfl) (qf (qd1 (pv 0) (pv 2) rfl)),?_⟩
  refine ⟨_,rfl,_,rfl,e,C,xs,rfl,he,hC,n1,fun dx hd hde=>?_⟩
  refine ⟨_,rfl,_,rfl,e,C,xs,dx,_,rfl,qd,(qa hde).trans qd,(by show 1<1000; decide),hC,n2,?_⟩
  refine k dx _ hd hde ?_ ?_ fun b o hb hbe=>?_
  ·rw [qa (Ne.symm hde),qd]
  ·rw [qd]; rfl
  ·rw [qa (qg hb hd),qa hbe,qa (qg hb hd)]; exact hb
theorem qay:qo ["self","met"] ["self","met"] (qe zZ):=⟨rfl,rfl,rfl,by decide +kernel,rfl,by decide +kernel,by decide +kernel⟩
theorem qaz (F:Fun K "__init__" "SecondText.__init__" zZ f fd) (c:Xc K C2 a.Refusal) (G:qeL P w K mg base 1 a.Refusal "Refusal" "__init__" ["self","number","place"] (QP K)):Q0 P w K mg base CX0 2 f fd ["self","met"] (qeM K C2):=by
 refine F.okU qay (fun vs H Q E h=>?_) (fun cdv A outer s H vs Q E hr h=>?_)
 ·obtain ⟨e,m,C,d,xs,ys,n,p,rfl,_⟩:=h; rfl
 ·obtain ⟨e,m,C,d,xs,ys,n,p,rfl,he,hm,hd,cC,n1,n2,k⟩:=h
  refine ⟨_,qf (qt (qip G hr (qc (pv 0) (qc (Zh JV qx (qb9 (pv 1) rfl)) (qc (qb9 (pv 1) rfl) qh))))),?_⟩
  exact ⟨_,rfl,_,rfl,m,C,ys,d,_,_,rfl,hm,hd,cC,n1,rfl,_,_,rfl,rfl,_,rfl,m,C,ys,d,_,_,rfl,hm,hd,cC,n2,rfl,e,C2,xs,10+n,p,rfl,he,c.x,c.nn,c.np,k⟩
theorem Ja:qo ["text","refusal"] ["text"] (qe jz):=⟨rfl,rfl,rfl,by decide +kernel,rfl,by decide +kernel,by decide +kernel⟩
theorem qcE (F:Fun K "read_second" "read_second" jz f fd) (T:Tx P w K mg a) (gR:mg "Refusal" = some (.ref a.Refusal)) (c:Xc K C2 a.Refusal) (Gr:FnAt P w K mg base (CXR P w) 8 "read" ["text"] (qaw a K)) (Gx:qkq P w K mg base 2 C2 "SecondText" ["self","met"] (qeM K C2)) :
  qB P w K mg base (qJ False P w) 9 f fd ["text"] (qcD a K):=by
 refine F.okZ Ja (fun vs H Q E h=>?_) (fun cdv A outer s H vs Q E hr h=>?_)
 ·obtain ⟨ta,txt,rfl,_⟩:=h; rfl
 ·obtain ⟨ta,txt,rfl,ht,ko,kx⟩:=h
  obtain ⟨fI,fdI,hmx,M2,FI,hbI⟩:=Gx
  have hr3:qE 3 _:=hr.mono (by decide)
  refine ⟨_,qf (qfW (tb:=fun E1=>qa4 (Qk (qaw a K) [] E1 (jH (jt 0) j7))) rfl (i:=1) Ja.nd rfl rfl rfl gR T.x_Refusal
   (fun xe pn E1 hp=>qf (zn (qZ Gr hr hp (qc (pv 0) qh)))) M2 FI hr3 hbI rfl hmx),?_⟩
  refine ⟨_,rfl,ta,txt,rfl,ht,ko,fun x ex C dx H' s' xa=>?_⟩
  refine ⟨C,dx,rfl,rfl,xa.cls,xa.sub,fun m xs e te hm hem he=>?_⟩
  have hd1:upd H' m (XOb m C xs (some dx)) dx=some (XDi dx (rfF (x.kind:Int) (x.place:Int))):=by rw [qa (qg xa.di hm)]; exact xa.di
  refine ⟨e,m,C,dx,_,xs,(x.kind:Int),(x.place:Int),rfl,qd,(qa (Ne.symm hem)).trans qd,(qa (qg xa.di he)).trans hd1,xa.cls,xa.nn,xa.np,fun d2 H2 hd2 hde h1 h2 hk=>?_⟩
  refine ⟨rfl,d2,h1,hk m _ ((qa (Ne.symm hem)).trans qd) (Ne.symm hem),?_⟩
  refine kx x ex C2 d2 _ (fun b o eb=>?_) ⟨c.x,c.u,c.nn,c.np,?_⟩
  ·have eb':=s' b o eb
   have be:=qg eb' he
   rw [zi be]
   exact hk b o (by rw [qa be,qa (qg eb' hm)]; exact eb') be
  ·rw [zi hde]; exact h2
end
end RT
end
section
namespace RT
open PySem PySem.Spec PyProof.Rows L2
theorem qiq {K:PySem.W.Frag} {H H':Hp} {p:Addr} {xs:List V} (s:qM H H') (h:SqL K H p xs):SqL K H' p xs:=by
 rcases h with (h | ⟨o,h⟩) | h
 ·exact .inl (.inl (s _ _ h))
 ·exact .inl (.inr ⟨o,s _ _ h⟩)
 ·exact .inr h
def Ze (t1 t2:List Nat):List V:=match Vastoa.read t1 with
 | .ok T=>(match Vastoa.read t2 with
  | .ok U=>[.int (if Vastoa.rows T=Vastoa.rows U then 1 else 0)]
  | .error x=>[.int (-(10+(x.kind:Int)))])
 | .error x=>[.int (-(x.kind:Int))]
def qeN (K:PySem.W.Frag):Sp:=fun vs H Q E=>∃ (ta tb:Addr) (t1 t2:List Nat),vs=[.ref ta,.ref tb]/\SqL K H ta (nt t1)/\SqL K H tb (nt t2)/\∀ (H':Hp) (q:Addr),H' q=some (.lst (Ze t1 t2))->Q (.ref q) H'
section
variable {P:Program} {w:World} {K:PySem.W.Frag} {mg:Str->Option Value} {base:Heap} {f:Addr} {fd:FuncData} {a:Ad}
theorem qaP:qo ["a","b","first","second","refusal"] ["a","b"] (qe s_same):=⟨rfl,rfl,rfl,by decide +kernel,rfl,by decide +kernel,by decide +kernel⟩
theorem qjx (F:Fun K "same" "same" s_same f fd) (T:Tx P w K mg a) (gR:mg "Refusal" = some (.ref a.Refusal)) (Gr:FnAt P w K mg base (CXR P w) 8 "read" ["text"] (qaw a K)) (Gn:FnAt P w K mg base CX0 2 "numbers_of" ["tree"] (ZL a)) (G2:FnAt P w K mg base (qJ False P w) 9 "read_second" ["text"] (qcD a K)) :
  qB P w K mg base CX0 10 f fd ["a","b"] (qeN K):=by
 refine F.ok qaP (fun vs H Q E h=>?_) (fun cdv A outer s H vs Q E hr h=>?_)
 ·obtain ⟨ta,tb,t1,t2,rfl,_⟩:=h; rfl
 ·obtain ⟨ta,tb,t1,t2,rfl,h1,h2,k⟩:=h
  have hr2:qE 2 _:=hr.mono (by decide)
  have hr8:qE 8 _:=hr.mono (by decide)
  refine ⟨_,qi (qj2 (cz:=False) (tb:=fun E1=>qdK (qfJ (Qk (ZL a) [] E0 (jH (Qk (qaw a K) [] E1 (jH (jt 0) j7)) j7)) (Jd 2)) (qfJ (Qk (ZL a) [] E0 (jH (Qk (qcD a K) [] E1 (jH (jt 1) j7)) j7)) (Jd 3))) (ts:=qa4 (qhK (jH (tUn (rU fun i=>.int (-i)) (qfS K (jt 4) "number")) j7))) (i:=4) rfl rfl rfl qaP.nd rfl rfl rfl gR T.x_Refusal
   (fun xe pn E1 hp=>qi (qU (i:=2) qaP.nd rfl (Or.inl rfl) (qZ Gn hr2 qI (qc (qZ Gr hr8 (qfi hp) (qc (pv 0) qh)) qh))) (qf (qU (i:=3) qaP.nd rfl (Or.inl rfl) (qZ Gn hr2 qI (qc (qZ G2 hr hp (qc (pv 1) qh)) qh)))))
   (fun e=>qf (zn (zo (qc (qdx qbp (qb9 (pv 4) rfl)) qh)))))
   (qf (zn (zo (qc (qa3 (qK (qdR hr.units) (pv 2) (pv 3) (qN _)) qx qx) qh)))),?_⟩
  have bad:∀ (n q:Int) (C dx:Addr) (H2:Hp),XAt K a.Refusal C dx H2 n q->Ze t1 t2=[.int (-n)]->∃ C' d,Value.ref C=.ref C'/\(some dx:Option Addr)=some d/\zV K C'/\subB K C' a.Refusal/\∀ e xs,H2 e=none ->
    (qa4 (qhK (jH (tUn (rU fun i=>.int (-i)) (qfS K (jt 4) "number")) j7))) { nx:=fun _ _=>False,rt:=Q } ((List.replicate 5 none).set 4 (some (.ref e))) (upd H2 e (XOb e C' xs (some d))):=by
   intro n q C dx H2 xa eq
   refine ⟨C,dx,rfl,rfl,xa.cls,xa.sub,fun e xs he=>?_⟩
   have hd:(upd H2 e (XOb e C xs (some dx))) dx=some (XDi dx (rfF n q)):=by rw [qa (qg xa.di he)]; exact xa.di
   refine ⟨_,rfl,e,C,xs,dx,_,_,rfl,qd,hd,xa.cls,xa.nn,rfl,_,rfl,(by show 1<=sizeLine; decide),fun z hz=>?_⟩
   refine k _ z ?_
   rw [qd,eq]
  refine ⟨_,rfl,ta,t1,rfl,h1,fun U eU gU hw hl H1 t s1 hT=>?_,fun x ex C dx H' s' xa=>?_⟩
  ·refine ⟨t,U,rfl,hT,hw,hl,fun H2 p s2 hp e2=>?_⟩
   refine ⟨_,rfl,tb,t2,rfl,qiq (s1.trans s2) h2,fun W eW gW hw2 hl2 H3 u s3 hW=>?_,fun x ex C dx H' s' xa=>?_⟩
   ·refine ⟨u,W,rfl,hW,hw2,hl2,fun H4 q s4 hq e4=>?_⟩
    refine ⟨_,rfl,_,rfl,qem (SqL.of (s4 _ _ (s3 _ _ e2))) (SqL.of e4) ⟨_,rfl,?_⟩⟩
    have fin:∀ i:Int,i=(if Vastoa.rows U=Vastoa.rows W then 1 else 0)->([V.int i]:List V).length<=sizeLine/\∀ z,H4 z=none->Q (.ref z) (upd H4 z (.lst [V.int i])):=by
     rintro i rfl
     refine ⟨(by show 1<=sizeLine; decide),fun z hz=>k _ z ?_⟩
     rw [qd]
     unfold Ze
     rw [eU,eW]
    refine jr (fun e=>?_) fun e=>?_
    ·have e:=of_decide_eq_true e
     exact fin 1 (by rw [if_pos e])
    ·have e:¬ Vastoa.rows U=Vastoa.rows W:=fun y=>e (decide_eq_true y)
     exact fin 0 (by rw [if_neg e])
   ·exact bad _ _ C dx H' xa (by unfold Ze; rw [eU]; simp only [ex])
  ·exact bad _ _ C dx H' xa (by unfold Ze; rw [ex])
end
theorem qir (l m:List Int) (h:NeutralIO.bytes l=true) (g:NeutralIO.bytes m=true):Ze (VastoaNeutral.text l) (VastoaNeutral.text m)=(PyVastoa.same l m).map V.int:=by
 have ans:∀ t u:List Nat,(VastoaNeutral.encode (Vastoa.answer (.same t u))).map V.int=Ze t u:=fun t u=>by
  show (VastoaNeutral.encode (match Vastoa.read t,Vastoa.read u with
   | .error f,_=>Vastoa.faulty 0 f
   | .ok _,.error f=>Vastoa.faulty 10 f
   | .ok t,.ok u=>{ value:=((Vastoa.same t u).toNat:Nat) })).map V.int=_
  unfold Ze
  cases Vastoa.read t with
  | ok T=>
   cases Vastoa.read u with
   | ok U=>
    show [V.int (((Vastoa.rows T == Vastoa.rows U).toNat:Nat):Int)]=[.int (if Vastoa.rows T=Vastoa.rows U then 1 else 0)]
    by_cases e:Vastoa.rows T=Vastoa.rows U
    ·rw [if_pos e,e,beq_self_eq_true]; rfl
    ·rw [if_neg e,beq_eq_false_iff_ne.mpr e]; rfl
   | error x=>
    show [V.int (-(x.kind:Int) - 10)]=[.int (-(10+(x.kind:Int)))]
    congr 2; omega
  | error x=>
   show [V.int (-(x.kind:Int) - 0)]=_
   rw [Int.sub_zero]
 rw [<- ans]
 have e:VastoaNeutral.callOf [[3],l,m]=some (.same (VastoaNeutral.text l) (VastoaNeutral.text m)):=by show (if (NeutralIO.bytes l&&NeutralIO.bytes m)=true then _ else _)=_; rw [if_pos (by rw [h,g]; rfl)]
 unfold PyVastoa.same VastoaNeutral.step
 rw [e]
 rfl
end RT
end
section
namespace RT
open PySem PySem.Spec PyProof.Rows L2
theorem qgn:(Qm.map fun r=>(Sum.inr r.1:Key)).Nodup:=by decide +kernel
theorem qkr {P:Program} {w:World} {K:PySem.W.Frag} {h:Heap} {mg:Str->Option Value} {fa:Addr}
  {c1v:Addr} {c08:Addr} {c0U:Addr} {c03:Addr} {c14:Addr} {c1h:Addr} {c1r:Addr} {c1K:Addr} {c1G:Addr} {c0D:Addr} {c0Q:Addr} {c1A:Addr} {c1m:Addr} {f1i:Addr} {f1s:Addr} {f1L:Addr} {f1H:Addr} {f0E:Addr} {f0R:Addr} {f1B:Addr} {f1n:Addr} {f0W:Addr} {f29:Addr} {f23:Addr} {f25:Addr} {f24:Addr} {f1P:Addr} {f1x:Addr} {f1W:Addr} {f1U:Addr} {f1V:Addr} {f1Y:Addr} {f0l:Addr} {f0a:Addr} {f09:Addr} {f0e:Addr} {f0o:Addr} {f0c:Addr} {f0d:Addr} {f0g:Addr} {f0h:Addr} {f0b:Addr} {f0f:Addr} {f0m:Addr} {f0j:Addr} {f1R:Addr} {f05:Addr} {f1T:Addr} {f1Q:Addr} {f22:Addr} {f1b:Addr} {f1e:Addr} {f1d:Addr} {f15:Addr} {f1a:Addr} {f19:Addr} {f27:Addr} {f28:Addr} {f2b:Addr} {o1i d1i p1i v1i e1i t1i:Value} {x1i y1i:Option Addr} {z1i:Array (Option Value)} {o1s d1s p1s v1s e1s t1s:Value} {x1s y1s:Option Addr} {z1s:Array (Option Value)} {o1L d1L p1L v1L e1L t1L:Value} {x1L y1L:Option Addr} {z1L:Array (Option Value)} {o1H d1H p1H v1H e1H t1H:Value} {x1H y1H:Option Addr} {z1H:Array (Option Value)} {o0E d0E p0E v0E e0E t0E:Value} {x0E y0E:Option Addr} {z0E:Array (Option Value)} {o0R d0R p0R v0R e0R t0R:Value} {x0R y0R:Option Addr} {z0R:Array (Option Value)} {o1B d1B p1B v1B e1B t1B:Value} {x1B y1B:Option Addr} {z1B:Array (Option Value)} {o1n d1n p1n v1n e1n t1n:Value} {x1n y1n:Option Addr} {z1n:Array (Option Value)} {o0W d0W p0W v0W e0W t0W:Value} {x0W y0W:Option Addr} {z0W:Array (Option Value)} {o29 d29 p29 v29 e29 t29:Value} {x29 y29:Option Addr} {z29:Array (Option Value)} {o23 d23 p23 v23 e23 t23:Value} {x23 y23:Option Addr} {z23:Array (Option Value)} {o25 d25 p25 v25 e25 t25:Value} {x25 y25:Option Addr} {z25:Array (Option Value)} {o24 d24 p24 v24 e24 t24:Value} {x24 y24:Option Addr} {z24:Array (Option Value)} {o1P d1P p1P v1P e1P t1P:Value} {x1P y1P:Option Addr} {z1P:Array (Option Value)} {o1x d1x p1x v1x e1x t1x:Value} {x1x y1x:Option Addr} {z1x:Array (Option Value)} {o1W d1W p1W v1W e1W t1W:Value} {x1W y1W:Option Addr} {z1W:Array (Option Value)} {o1U d1U p1U v1U e1U t1U:Value} {x1U y1U:Option Addr} {z1U:Array (Option Value)} {o1V d1V p1V v1V e1V t1V:Value} {x1V y1V:Option Addr} {z1V:Array (Option Value)} {o1Y d1Y p1Y v1Y e1Y t1Y:Value} {x1Y y1Y:Option Addr} {z1Y:Array (Option Value)} {o0l d0l p0l v0l e0l t0l:Value} {x0l y0l:Option Addr} {z0l:Array (Option Value)} {o0a d0a p0a v0a e0a t0a:Value} {x0a y0a:Option Addr} {z0a:Array (Option Value)} {o09 d09 p09 v09 e09 t09:Value} {x09 y09:Option Addr} {z09:Array (Option Value)} {o0e d0e p0e v0e e0e t0e:Value} {x0e y0e:Option Addr} {z0e:Array (Option Value)} {o0o d0o p0o v0o e0o t0o:Value} {x0o y0o:Option Addr} {z0o:Array (Option Value)} {o0c d0c p0c v0c e0c t0c:Value} {x0c y0c:Option Addr} {z0c:Array (Option Value)} {o0d d0d p0d v0d e0d t0d:Value} {x0d y0d:Option Addr} {z0d:Array (Option Value)} {o0g d0g p0g v0g e0g t0g:Value} {x0g y0g:Option Addr} {z0g:Array (Option Value)} {o0h d0h p0h v0h e0h t0h:Value} {x0h y0h:Option Addr} {z0h:Array (Option Value)} {o0b d0b p0b v0b e0b t0b:Value} {x0b y0b:Option Addr} {z0b:Array (Option Value)} {o0f d0f p0f v0f e0f t0f:Value} {x0f y0f:Option Addr} {z0f:Array (Option Value)} {o0m d0m p0m v0m e0m t0m:Value} {x0m y0m:Option Addr} {z0m:Array (Option Value)} {o0j d0j p0j v0j e0j t0j:Value} {x0j y0j:Option Addr} {z0j:Array (Option Value)} {o1R d1R p1R v1R e1R t1R:Value} {x1R y1R:Option Addr} {z1R:Array (Option Value)} {o05 d05 p05 v05 e05 t05:Value} {x05 y05:Option Addr} {z05:Array (Option Value)} {o1T d1T p1T v1T e1T t1T:Value} {x1T y1T:Option Addr} {z1T:Array (Option Value)} {o1Q d1Q p1Q v1Q e1Q t1Q:Value} {x1Q y1Q:Option Addr} {z1Q:Array (Option Value)} {o22 d22 p22 v22 e22 t22:Value} {x22 y22:Option Addr} {z22:Array (Option Value)} {o1b d1b p1b v1b e1b t1b:Value} {x1b y1b:Option Addr} {z1b:Array (Option Value)} {o1e d1e p1e v1e e1e t1e:Value} {x1e y1e:Option Addr} {z1e:Array (Option Value)} {o1d d1d p1d v1d e1d t1d:Value} {x1d y1d:Option Addr} {z1d:Array (Option Value)} {o15 d15 p15 v15 e15 t15:Value} {x15 y15:Option Addr} {z15:Array (Option Value)} {o1a d1a p1a v1a e1a t1a:Value} {x1a y1a:Option Addr} {z1a:Array (Option Value)} {o19 d19 p19 v19 e19 t19:Value} {x19 y19:Option Addr} {z19:Array (Option Value)} {o27 d27 p27 v27 e27 t27:Value} {x27 y27:Option Addr} {z27:Array (Option Value)} {o28 d28 p28 v28 e28 t28:Value} {x28 y28:Option Addr} {z28:Array (Option Value)} {o2b d2b p2b v2b e2b t2b:Value} {x2b y2b:Option Addr} {z2b:Array (Option Value)} {j1q:Tok} {j0C:Tok} {j12:Tok} {j02:Tok} {j10:Tok} {j0x:Tok} {j0s:Tok} {j0H:Tok} {j1O:Tok} {j01:Tok} {j1E:Tok} {j0B:Tok} {j13:Tok} {j0L:Tok} {j0J:Tok} {j0O:Tok} {j0N:Tok} {j0K:Tok} {j0I:Tok} {t1F:Addr} {t1l:Addr} {t00:Addr} {t0t:Addr} {e0t:Array DictEntry} {m0t:Nat} {t0w:Addr} {e0w:Array DictEntry} {m0w:Nat} {t0z:Addr} {e0z:Array DictEntry} {m0z:Nat}
  (X:K.In h) (G:h.Ns mainGlobals mg) (hfa:mg "same" = some (.ref fa))
  (a1v:PySem.W.nsIn K mainGlobals "Token" = some (some (.ref c1v)))
  (a08:PySem.W.nsIn K mainGlobals "Cutter" = some (some (.ref c08)))
  (a0U:PySem.W.nsIn K mainGlobals "Node" = some (some (.ref c0U)))
  (a03:PySem.W.nsIn K mainGlobals "Begun" = some (some (.ref c03)))
  (a14:PySem.W.nsIn K mainGlobals "Reader" = some (some (.ref c14)))
  (a1h:PySem.W.nsIn K mainGlobals "Refusal" = some (some (.ref c1h)))
  (a1r:PySem.W.nsIn K mainGlobals "TextTooLong" = some (some (.ref c1r)))
  (a1K:PySem.W.nsIn K mainGlobals "WrongToken" = some (some (.ref c1K)))
  (a1G:PySem.W.nsIn K mainGlobals "WrongSyntax" = some (some (.ref c1G)))
  (a0D:PySem.W.nsIn K mainGlobals "LevelTooDeep" = some (some (.ref c0D)))
  (a0Q:PySem.W.nsIn K mainGlobals "NameTwice" = some (some (.ref c0Q)))
  (a1A:PySem.W.nsIn K mainGlobals "TreeTooDeep" = some (some (.ref c1A)))
  (a1m:PySem.W.nsIn K mainGlobals "SecondText" = some (some (.ref c1m)))
  (a1i:PySem.W.findIn K (.ref c1h) "__init__" = some (some (.ref f1i)))
  (a1s:PySem.W.findIn K (.ref c1r) "__init__" = some (some (.ref f1s)))
  (a1L:PySem.W.findIn K (.ref c1K) "__init__" = some (some (.ref f1L)))
  (a1H:PySem.W.findIn K (.ref c1G) "__init__" = some (some (.ref f1H)))
  (a0E:PySem.W.findIn K (.ref c0D) "__init__" = some (some (.ref f0E)))
  (a0R:PySem.W.findIn K (.ref c0Q) "__init__" = some (some (.ref f0R)))
  (a1B:PySem.W.findIn K (.ref c1A) "__init__" = some (some (.ref f1B)))
  (a1n:PySem.W.findIn K (.ref c1m) "__init__" = some (some (.ref f1n)))
  (a0W:PySem.W.findIn K (.ref c0U) "__init__" = some (some (.ref f0W)))
  (a29:PySem.W.nsIn K mainGlobals "refuse_deep" = some (some (.ref f29)))
  (a23:PySem.W.nsIn K mainGlobals "nodes_of" = some (some (.ref f23)))
  (a25:PySem.W.nsIn K mainGlobals "numbers_of_labels" = some (some (.ref f25)))
  (a24:PySem.W.nsIn K mainGlobals "numbers_of" = some (some (.ref f24)))
  (a1P:PySem.W.nsIn K mainGlobals "bytes_of" = some (some (.ref f1P)))
  (a1x:PySem.W.findIn K (.ref c1v) "__init__" = some (some (.ref f1x)))
  (a1W:PySem.W.nsIn K mainGlobals "is_letter" = some (some (.ref f1W)))
  (a1U:PySem.W.nsIn K mainGlobals "is_digit" = some (some (.ref f1U)))
  (a1V:PySem.W.nsIn K mainGlobals "is_in_name" = some (some (.ref f1V)))
  (a1Y:PySem.W.nsIn K mainGlobals "kind_of_name" = some (some (.ref f1Y)))
  (a0l:PySem.W.findIn K (.ref c08) "__init__" = some (some (.ref f0l)))
  (a0a:PySem.W.findIn K (.ref c08) "byte_at" = some (some (.ref f0a)))
  (a09:PySem.W.findIn K (.ref c08) "add_token" = some (some (.ref f09)))
  (a0e:PySem.W.findIn K (.ref c08) "cut_outside" = some (some (.ref f0e)))
  (a0o:PySem.W.findIn K (.ref c08) "pass_comment" = some (some (.ref f0o)))
  (a0c:PySem.W.findIn K (.ref c08) "cut_name" = some (some (.ref f0c)))
  (a0d:PySem.W.findIn K (.ref c08) "cut_number" = some (some (.ref f0d)))
  (a0g:PySem.W.findIn K (.ref c08) "cut_right_brace" = some (some (.ref f0g)))
  (a0h:PySem.W.findIn K (.ref c08) "cut_sign" = some (some (.ref f0h)))
  (a0b:PySem.W.findIn K (.ref c08) "cut_literal" = some (some (.ref f0b)))
  (a0f:PySem.W.findIn K (.ref c08) "cut_piece" = some (some (.ref f0f)))
  (a0m:PySem.W.findIn K (.ref c08) "is_piece_over" = some (some (.ref f0m)))
  (a0j:PySem.W.findIn K (.ref c08) "gather_byte" = some (some (.ref f0j)))
  (a1R:PySem.W.nsIn K mainGlobals "cut" = some (some (.ref f1R)))
  (a05:PySem.W.findIn K (.ref c03) "__init__" = some (some (.ref f05)))
  (a1T:PySem.W.nsIn K mainGlobals "fits" = some (some (.ref f1T)))
  (a1Q:PySem.W.nsIn K mainGlobals "choose" = some (some (.ref f1Q)))
  (a22:PySem.W.nsIn K mainGlobals "meet_name" = some (some (.ref f22)))
  (a1b:PySem.W.findIn K (.ref c14) "__init__" = some (some (.ref f1b)))
  (a1e:PySem.W.findIn K (.ref c14) "step" = some (some (.ref f1e)))
  (a1d:PySem.W.findIn K (.ref c14) "read_token" = some (some (.ref f1d)))
  (a15:PySem.W.findIn K (.ref c14) "act" = some (some (.ref f15)))
  (a1a:PySem.W.findIn K (.ref c14) "enter_level" = some (some (.ref f1a)))
  (a19:PySem.W.findIn K (.ref c14) "end_node" = some (some (.ref f19)))
  (a27:PySem.W.nsIn K mainGlobals "read" = some (some (.ref f27)))
  (a28:PySem.W.nsIn K mainGlobals "read_second" = some (some (.ref f28)))
  (a2b:PySem.W.nsIn K mainGlobals "same" = some (some (.ref f2b)))
  (l1i:K.lookup f1i=some ⟨o1i,x1i,.func (PySem.W.fnOf "__init__" "Refusal.__init__" (qr z9) (qm z9) (qe z9) .none v1i d1i p1i y1i e1i t1i),z1i⟩)
  (b1i:PySem.W.codeIn K e1i "Refusal.__init__" = true)
  (k1i:PySem.W.keepIn K (.ref f1i)=true)
  (i1i:PySem.W.isFn K (.ref f1i)=true)
  (l1s:K.lookup f1s=some ⟨o1s,x1s,.func (PySem.W.fnOf "__init__" "TextTooLong.__init__" (qr zL) (qm zL) (qe zL) .none v1s d1s p1s y1s e1s t1s),z1s⟩)
  (b1s:PySem.W.codeIn K e1s "TextTooLong.__init__" = true)
  (k1s:PySem.W.keepIn K (.ref f1s)=true)
  (i1s:PySem.W.isFn K (.ref f1s)=true)
  (l1L:K.lookup f1L=some ⟨o1L,x1L,.func (PySem.W.fnOf "__init__" "WrongToken.__init__" (qr zY) (qm zY) (qe zY) .none v1L d1L p1L y1L e1L t1L),z1L⟩)
  (b1L:PySem.W.codeIn K e1L "WrongToken.__init__" = true)
  (k1L:PySem.W.keepIn K (.ref f1L)=true)
  (i1L:PySem.W.isFn K (.ref f1L)=true)
  (l1H:K.lookup f1H=some ⟨o1H,x1H,.func (PySem.W.fnOf "__init__" "WrongSyntax.__init__" (qr zM) (qm zM) (qe zM) .none v1H d1H p1H y1H e1H t1H),z1H⟩)
  (b1H:PySem.W.codeIn K e1H "WrongSyntax.__init__" = true)
  (k1H:PySem.W.keepIn K (.ref f1H)=true)
  (i1H:PySem.W.isFn K (.ref f1H)=true)
  (l0E:K.lookup f0E=some ⟨o0E,x0E,.func (PySem.W.fnOf "__init__" "LevelTooDeep.__init__" (qr zC) (qm zC) (qe zC) .none v0E d0E p0E y0E e0E t0E),z0E⟩)
  (b0E:PySem.W.codeIn K e0E "LevelTooDeep.__init__" = true)
  (k0E:PySem.W.keepIn K (.ref f0E)=true)
  (i0E:PySem.W.isFn K (.ref f0E)=true)
  (l0R:K.lookup f0R=some ⟨o0R,x0R,.func (PySem.W.fnOf "__init__" "NameTwice.__init__" (qr ja) (qm ja) (qe ja) .none v0R d0R p0R y0R e0R t0R),z0R⟩)
  (b0R:PySem.W.codeIn K e0R "NameTwice.__init__" = true)
  (k0R:PySem.W.keepIn K (.ref f0R)=true)
  (i0R:PySem.W.isFn K (.ref f0R)=true)
  (l1B:K.lookup f1B=some ⟨o1B,x1B,.func (PySem.W.fnOf "__init__" "TreeTooDeep.__init__" (qr zN) (qm zN) (qe zN) .none v1B d1B p1B y1B e1B t1B),z1B⟩)
  (b1B:PySem.W.codeIn K e1B "TreeTooDeep.__init__" = true)
  (k1B:PySem.W.keepIn K (.ref f1B)=true)
  (i1B:PySem.W.isFn K (.ref f1B)=true)
  (l1n:K.lookup f1n=some ⟨o1n,x1n,.func (PySem.W.fnOf "__init__" "SecondText.__init__" (qr zZ) (qm zZ) (qe zZ) .none v1n d1n p1n y1n e1n t1n),z1n⟩)
  (b1n:PySem.W.codeIn K e1n "SecondText.__init__" = true)
  (k1n:PySem.W.keepIn K (.ref f1n)=true)
  (i1n:PySem.W.isFn K (.ref f1n)=true)
  (l0W:K.lookup f0W=some ⟨o0W,x0W,.func (PySem.W.fnOf "__init__" "Node.__init__" (qr jY) (qm jY) (qe jY) .none v0W d0W p0W y0W e0W t0W),z0W⟩)
  (b0W:PySem.W.codeIn K e0W "Node.__init__" = true)
  (k0W:PySem.W.keepIn K (.ref f0W)=true)
  (i0W:PySem.W.isFn K (.ref f0W)=true)
  (l29:K.lookup f29=some ⟨o29,x29,.func (PySem.W.fnOf "refuse_deep" "refuse_deep" (qr jv) (qm jv) (qe jv) .none v29 d29 p29 y29 e29 t29),z29⟩)
  (b29:PySem.W.codeIn K e29 "refuse_deep" = true)
  (k29:PySem.W.keepIn K (.ref f29)=true)
  (l23:K.lookup f23=some ⟨o23,x23,.func (PySem.W.fnOf "nodes_of" "nodes_of" (qr Qo) (qm Qo) (qe Qo) .none v23 d23 p23 y23 e23 t23),z23⟩)
  (b23:PySem.W.codeIn K e23 "nodes_of" = true)
  (k23:PySem.W.keepIn K (.ref f23)=true)
  (l25:K.lookup f25=some ⟨o25,x25,.func (PySem.W.fnOf "numbers_of_labels" "numbers_of_labels" (qr zD) (qm zD) (qe zD) .none v25 d25 p25 y25 e25 t25),z25⟩)
  (b25:PySem.W.codeIn K e25 "numbers_of_labels" = true)
  (k25:PySem.W.keepIn K (.ref f25)=true)
  (l24:K.lookup f24=some ⟨o24,x24,.func (PySem.W.fnOf "numbers_of" "numbers_of" (qr jL) (qm jL) (qe jL) .none v24 d24 p24 y24 e24 t24),z24⟩)
  (b24:PySem.W.codeIn K e24 "numbers_of" = true)
  (k24:PySem.W.keepIn K (.ref f24)=true)
  (l1P:K.lookup f1P=some ⟨o1P,x1P,.func (PySem.W.fnOf "bytes_of" "bytes_of" (qr Qp) (qm Qp) (qe Qp) .none v1P d1P p1P y1P e1P t1P),z1P⟩)
  (b1P:PySem.W.codeIn K e1P "bytes_of" = true)
  (k1P:PySem.W.keepIn K (.ref f1P)=true)
  (l1x:K.lookup f1x=some ⟨o1x,x1x,.func (PySem.W.fnOf "__init__" "Token.__init__" (qr jM) (qm jM) (qe jM) .none v1x d1x p1x y1x e1x t1x),z1x⟩)
  (b1x:PySem.W.codeIn K e1x "Token.__init__" = true)
  (k1x:PySem.W.keepIn K (.ref f1x)=true)
  (i1x:PySem.W.isFn K (.ref f1x)=true)
  (l1W:K.lookup f1W=some ⟨o1W,x1W,.func (PySem.W.fnOf "is_letter" "is_letter" (qr jZ) (qm jZ) (qe jZ) .none v1W d1W p1W y1W e1W t1W),z1W⟩)
  (b1W:PySem.W.codeIn K e1W "is_letter" = true)
  (k1W:PySem.W.keepIn K (.ref f1W)=true)
  (l1U:K.lookup f1U=some ⟨o1U,x1U,.func (PySem.W.fnOf "is_digit" "is_digit" (qr Qq) (qm Qq) (qe Qq) .none v1U d1U p1U y1U e1U t1U),z1U⟩)
  (b1U:PySem.W.codeIn K e1U "is_digit" = true)
  (k1U:PySem.W.keepIn K (.ref f1U)=true)
  (l1V:K.lookup f1V=some ⟨o1V,x1V,.func (PySem.W.fnOf "is_in_name" "is_in_name" (qr jN) (qm jN) (qe jN) .none v1V d1V p1V y1V e1V t1V),z1V⟩)
  (b1V:PySem.W.codeIn K e1V "is_in_name" = true)
  (k1V:PySem.W.keepIn K (.ref f1V)=true)
  (l1Y:K.lookup f1Y=some ⟨o1Y,x1Y,.func (PySem.W.fnOf "kind_of_name" "kind_of_name" (qr jo) (qm jo) (qe jo) .none v1Y d1Y p1Y y1Y e1Y t1Y),z1Y⟩)
  (b1Y:PySem.W.codeIn K e1Y "kind_of_name" = true)
  (k1Y:PySem.W.keepIn K (.ref f1Y)=true)
  (l0l:K.lookup f0l=some ⟨o0l,x0l,.func (PySem.W.fnOf "__init__" "Cutter.__init__" (qr jw) (qm jw) (qe jw) .none v0l d0l p0l y0l e0l t0l),z0l⟩)
  (b0l:PySem.W.codeIn K e0l "Cutter.__init__" = true)
  (k0l:PySem.W.keepIn K (.ref f0l)=true)
  (i0l:PySem.W.isFn K (.ref f0l)=true)
  (l0a:K.lookup f0a=some ⟨o0a,x0a,.func (PySem.W.fnOf "byte_at" "Cutter.byte_at" (qr jb) (qm jb) (qe jb) .none v0a d0a p0a y0a e0a t0a),z0a⟩)
  (b0a:PySem.W.codeIn K e0a "Cutter.byte_at" = true)
  (k0a:PySem.W.keepIn K (.ref f0a)=true)
  (i0a:PySem.W.isFn K (.ref f0a)=true)
  (l09:K.lookup f09=some ⟨o09,x09,.func (PySem.W.fnOf "add_token" "Cutter.add_token" (qr zO) (qm zO) (qe zO) .none v09 d09 p09 y09 e09 t09),z09⟩)
  (b09:PySem.W.codeIn K e09 "Cutter.add_token" = true)
  (k09:PySem.W.keepIn K (.ref f09)=true)
  (i09:PySem.W.isFn K (.ref f09)=true)
  (l0e:K.lookup f0e=some ⟨o0e,x0e,.func (PySem.W.fnOf "cut_outside" "Cutter.cut_outside" (qr zt) (qm zt) (qe zt) .none v0e d0e p0e y0e e0e t0e),z0e⟩)
  (b0e:PySem.W.codeIn K e0e "Cutter.cut_outside" = true)
  (k0e:PySem.W.keepIn K (.ref f0e)=true)
  (i0e:PySem.W.isFn K (.ref f0e)=true)
  (l0o:K.lookup f0o=some ⟨o0o,x0o,.func (PySem.W.fnOf "pass_comment" "Cutter.pass_comment" (qr zl) (qm zl) (qe zl) .none v0o d0o p0o y0o e0o t0o),z0o⟩)
  (b0o:PySem.W.codeIn K e0o "Cutter.pass_comment" = true)
  (k0o:PySem.W.keepIn K (.ref f0o)=true)
  (i0o:PySem.W.isFn K (.ref f0o)=true)
  (l0c:K.lookup f0c=some ⟨o0c,x0c,.func (PySem.W.fnOf "cut_name" "Cutter.cut_name" (qr z0) (qm z0) (qe z0) .none v0c d0c p0c y0c e0c t0c),z0c⟩)
  (b0c:PySem.W.codeIn K e0c "Cutter.cut_name" = true)
  (k0c:PySem.W.keepIn K (.ref f0c)=true)
  (i0c:PySem.W.isFn K (.ref f0c)=true)
  (l0d:K.lookup f0d=some ⟨o0d,x0d,.func (PySem.W.fnOf "cut_number" "Cutter.cut_number" (qr zE) (qm zE) (qe zE) .none v0d d0d p0d y0d e0d t0d),z0d⟩)
  (b0d:PySem.W.codeIn K e0d "Cutter.cut_number" = true)
  (k0d:PySem.W.keepIn K (.ref f0d)=true)
  (i0d:PySem.W.isFn K (.ref f0d)=true)
  (l0g:K.lookup f0g=some ⟨o0g,x0g,.func (PySem.W.fnOf "cut_right_brace" "Cutter.cut_right_brace" (qr zb) (qm zb) (qe zb) .none v0g d0g p0g y0g e0g t0g),z0g⟩)
  (b0g:PySem.W.codeIn K e0g "Cutter.cut_right_brace" = true)
  (k0g:PySem.W.keepIn K (.ref f0g)=true)
  (i0g:PySem.W.isFn K (.ref f0g)=true)
  (l0h:K.lookup f0h=some ⟨o0h,x0h,.func (PySem.W.fnOf "cut_sign" "Cutter.cut_sign" (qr z5) (qm z5) (qe z5) .none v0h d0h p0h y0h e0h t0h),z0h⟩)
  (b0h:PySem.W.codeIn K e0h "Cutter.cut_sign" = true)
  (k0h:PySem.W.keepIn K (.ref f0h)=true)
  (i0h:PySem.W.isFn K (.ref f0h)=true)
  (l0b:K.lookup f0b=some ⟨o0b,x0b,.func (PySem.W.fnOf "cut_literal" "Cutter.cut_literal" (qr zu) (qm zu) (qe zu) .none v0b d0b p0b y0b e0b t0b),z0b⟩)
  (b0b:PySem.W.codeIn K e0b "Cutter.cut_literal" = true)
  (k0b:PySem.W.keepIn K (.ref f0b)=true)
  (i0b:PySem.W.isFn K (.ref f0b)=true)
  (l0f:K.lookup f0f=some ⟨o0f,x0f,.func (PySem.W.fnOf "cut_piece" "Cutter.cut_piece" (qr zP) (qm zP) (qe zP) .none v0f d0f p0f y0f e0f t0f),z0f⟩)
  (b0f:PySem.W.codeIn K e0f "Cutter.cut_piece" = true)
  (k0f:PySem.W.keepIn K (.ref f0f)=true)
  (i0f:PySem.W.isFn K (.ref f0f)=true)
  (l0m:K.lookup f0m=some ⟨o0m,x0m,.func (PySem.W.fnOf "is_piece_over" "Cutter.is_piece_over" (qr zf) (qm zf) (qe zf) .none v0m d0m p0m y0m e0m t0m),z0m⟩)
  (b0m:PySem.W.codeIn K e0m "Cutter.is_piece_over" = true)
  (k0m:PySem.W.keepIn K (.ref f0m)=true)
  (i0m:PySem.W.isFn K (.ref f0m)=true)
  (l0j:K.lookup f0j=some ⟨o0j,x0j,.func (PySem.W.fnOf "gather_byte" "Cutter.gather_byte" (qr zw) (qm zw) (qe zw) .none v0j d0j p0j y0j e0j t0j),z0j⟩)
  (b0j:PySem.W.codeIn K e0j "Cutter.gather_byte" = true)
  (k0j:PySem.W.keepIn K (.ref f0j)=true)
  (i0j:PySem.W.isFn K (.ref f0j)=true)
  (l1R:K.lookup f1R=some ⟨o1R,x1R,.func (PySem.W.fnOf "cut" "cut" (qr qaL) (qm qaL) (qe qaL) .none v1R d1R p1R y1R e1R t1R),z1R⟩)
  (b1R:PySem.W.codeIn K e1R "cut" = true)
  (k1R:PySem.W.keepIn K (.ref f1R)=true)
  (l05:K.lookup f05=some ⟨o05,x05,.func (PySem.W.fnOf "__init__" "Begun.__init__" (qr jO) (qm jO) (qe jO) .none v05 d05 p05 y05 e05 t05),z05⟩)
  (b05:PySem.W.codeIn K e05 "Begun.__init__" = true)
  (k05:PySem.W.keepIn K (.ref f05)=true)
  (i05:PySem.W.isFn K (.ref f05)=true)
  (l1T:K.lookup f1T=some ⟨o1T,x1T,.func (PySem.W.fnOf "fits" "fits" (qr Z2) (qm Z2) (qe Z2) .none v1T d1T p1T y1T e1T t1T),z1T⟩)
  (b1T:PySem.W.codeIn K e1T "fits" = true)
  (k1T:PySem.W.keepIn K (.ref f1T)=true)
  (l1Q:K.lookup f1Q=some ⟨o1Q,x1Q,.func (PySem.W.fnOf "choose" "choose" (qr QW) (qm QW) (qe QW) .none v1Q d1Q p1Q y1Q e1Q t1Q),z1Q⟩)
  (b1Q:PySem.W.codeIn K e1Q "choose" = true)
  (k1Q:PySem.W.keepIn K (.ref f1Q)=true)
  (l22:K.lookup f22=some ⟨o22,x22,.func (PySem.W.fnOf "meet_name" "meet_name" (qr j4) (qm j4) (qe j4) .none v22 d22 p22 y22 e22 t22),z22⟩)
  (b22:PySem.W.codeIn K e22 "meet_name" = true)
  (k22:PySem.W.keepIn K (.ref f22)=true)
  (l1b:K.lookup f1b=some ⟨o1b,x1b,.func (PySem.W.fnOf "__init__" "Reader.__init__" (qr jx) (qm jx) (qe jx) .none v1b d1b p1b y1b e1b t1b),z1b⟩)
  (b1b:PySem.W.codeIn K e1b "Reader.__init__" = true)
  (k1b:PySem.W.keepIn K (.ref f1b)=true)
  (i1b:PySem.W.isFn K (.ref f1b)=true)
  (l1e:K.lookup f1e=some ⟨o1e,x1e,.func (PySem.W.fnOf "step" "Reader.step" (qr jy) (qm jy) (qe jy) .none v1e d1e p1e y1e e1e t1e),z1e⟩)
  (b1e:PySem.W.codeIn K e1e "Reader.step" = true)
  (k1e:PySem.W.keepIn K (.ref f1e)=true)
  (i1e:PySem.W.isFn K (.ref f1e)=true)
  (l1d:K.lookup f1d=some ⟨o1d,x1d,.func (PySem.W.fnOf "read_token" "Reader.read_token" (qr zF) (qm zF) (qe zF) .none v1d d1d p1d y1d e1d t1d),z1d⟩)
  (b1d:PySem.W.codeIn K e1d "Reader.read_token" = true)
  (k1d:PySem.W.keepIn K (.ref f1d)=true)
  (i1d:PySem.W.isFn K (.ref f1d)=true)
  (l15:K.lookup f15=some ⟨o15,x15,.func (PySem.W.fnOf "act" "Reader.act" (qr jP) (qm jP) (qe jP) .none v15 d15 p15 y15 e15 t15),z15⟩)
  (b15:PySem.W.codeIn K e15 "Reader.act" = true)
  (k15:PySem.W.keepIn K (.ref f15)=true)
  (i15:PySem.W.isFn K (.ref f15)=true)
  (l1a:K.lookup f1a=some ⟨o1a,x1a,.func (PySem.W.fnOf "enter_level" "Reader.enter_level" (qr zx) (qm zx) (qe zx) .none v1a d1a p1a y1a e1a t1a),z1a⟩)
  (b1a:PySem.W.codeIn K e1a "Reader.enter_level" = true)
  (k1a:PySem.W.keepIn K (.ref f1a)=true)
  (i1a:PySem.W.isFn K (.ref f1a)=true)
  (l19:K.lookup f19=some ⟨o19,x19,.func (PySem.W.fnOf "end_node" "Reader.end_node" (qr z6) (qm z6) (qe z6) .none v19 d19 p19 y19 e19 t19),z19⟩)
  (b19:PySem.W.codeIn K e19 "Reader.end_node" = true)
  (k19:PySem.W.keepIn K (.ref f19)=true)
  (i19:PySem.W.isFn K (.ref f19)=true)
  (l27:K.lookup f27=some ⟨o27,x27,.func (PySem.W.fnOf "read" "read" (qr Z3) (qm Z3) (qe Z3) .none v27 d27 p27 y27 e27 t27),z27⟩)
  (b27:PySem.W.codeIn K e27 "read" = true)
  (k27:PySem.W.keepIn K (.ref f27)=true)
  (l28:K.lookup f28=some ⟨o28,x28,.func (PySem.W.fnOf "read_second" "read_second" (qr jz) (qm jz) (qe jz) .none v28 d28 p28 y28 e28 t28),z28⟩)
  (b28:PySem.W.codeIn K e28 "read_second" = true)
  (k28:PySem.W.keepIn K (.ref f28)=true)
  (l2b:K.lookup f2b=some ⟨o2b,x2b,.func (PySem.W.fnOf "same" "same" (qr s_same) (qm s_same) (qe s_same) .none v2b d2b p2b y2b e2b t2b),z2b⟩)
  (b2b:PySem.W.codeIn K e2b "same" = true)
  (k2b:PySem.W.keepIn K (.ref f2b)=true)
  (pg1v:PySem.W.plainGet K c1v Str.empty=true)
  (hd1v:PySem.W.hasDictIn K c1v=true)
  (po1v:PySem.W.plainOver K c1v=true)
  (sa1v:PySem.W.findIn K (.ref c1v) "__setattr__" = some (some (.builtin "object.__setattr__")))
  (mk1v:PySem.W.makesIn K c1v=true)
  (kc1v:PySem.W.keepIn K (.ref c1v)=true)
  (n1y:PySem.W.findIn K (.ref c1v) "kind" = some none)
  (n1z:PySem.W.findIn K (.ref c1v) "place" = some none)
  (n1w:PySem.W.findIn K (.ref c1v) "held" = some none)
  (pg08:PySem.W.plainGet K c08 Str.empty=true)
  (hd08:PySem.W.hasDictIn K c08=true)
  (po08:PySem.W.plainOver K c08=true)
  (sa08:PySem.W.findIn K (.ref c08) "__setattr__" = some (some (.builtin "object.__setattr__")))
  (mk08:PySem.W.makesIn K c08=true)
  (kc08:PySem.W.keepIn K (.ref c08)=true)
  (n0q:PySem.W.findIn K (.ref c08) "text" = some none)
  (n0p:PySem.W.findIn K (.ref c08) "place" = some none)
  (n0r:PySem.W.findIn K (.ref c08) "tokens" = some none)
  (n0n:PySem.W.findIn K (.ref c08) "opened" = some none)
  (n0k:PySem.W.findIn K (.ref c08) "in_literal" = some none)
  (n0i:PySem.W.findIn K (.ref c08) "ended" = some none)
  (pg0U:PySem.W.plainGet K c0U Str.empty=true)
  (hd0U:PySem.W.hasDictIn K c0U=true)
  (po0U:PySem.W.plainOver K c0U=true)
  (sa0U:PySem.W.findIn K (.ref c0U) "__setattr__" = some (some (.builtin "object.__setattr__")))
  (mk0U:PySem.W.makesIn K c0U=true)
  (kc0U:PySem.W.keepIn K (.ref c0U)=true)
  (n0Y:PySem.W.findIn K (.ref c0U) "kind" = some none)
  (n0Z:PySem.W.findIn K (.ref c0U) "labels" = some none)
  (n0X:PySem.W.findIn K (.ref c0U) "kids" = some none)
  (n0V:PySem.W.findIn K (.ref c0U) "depth" = some none)
  (pg03:PySem.W.plainGet K c03 Str.empty=true)
  (hd03:PySem.W.hasDictIn K c03=true)
  (po03:PySem.W.plainOver K c03=true)
  (sa03:PySem.W.findIn K (.ref c03) "__setattr__" = some (some (.builtin "object.__setattr__")))
  (mk03:PySem.W.makesIn K c03=true)
  (kc03:PySem.W.keepIn K (.ref c03)=true)
  (n04:PySem.W.findIn K (.ref c03) "first" = some none)
  (n06:PySem.W.findIn K (.ref c03) "labels" = some none)
  (n07:PySem.W.findIn K (.ref c03) "names" = some none)
  (pg14:PySem.W.plainGet K c14 Str.empty=true)
  (hd14:PySem.W.hasDictIn K c14=true)
  (po14:PySem.W.plainOver K c14=true)
  (sa14:PySem.W.findIn K (.ref c14) "__setattr__" = some (some (.builtin "object.__setattr__")))
  (mk14:PySem.W.makesIn K c14=true)
  (kc14:PySem.W.keepIn K (.ref c14)=true)
  (n1f:PySem.W.findIn K (.ref c14) "tokens" = some none)
  (n16:PySem.W.findIn K (.ref c14) "at" = some none)
  (n1c:PySem.W.findIn K (.ref c14) "level" = some none)
  (n1g:PySem.W.findIn K (.ref c14) "waiting" = some none)
  (n18:PySem.W.findIn K (.ref c14) "built" = some none)
  (n17:PySem.W.findIn K (.ref c14) "begun" = some none)
  (x1h:QZ K c1h=true)
  (sa1h:PySem.W.findIn K (.ref c1h) "__setattr__" = some (some (.builtin "object.__setattr__")))
  (ga1h:PySem.W.findIn K (.ref c1h) "__getattribute__" = some (some (.builtin "BaseException.__getattribute__")))
  (gh1h:PySem.W.findIn K (.ref c1h) "__getattr__" = some none)
  (u1h:Q6 K c1h c1h=true)
  (kc1h:PySem.W.keepIn K (.ref c1h)=true)
  (n1j:PySem.W.findIn K (.ref c1h) "number" = some none)
  (n1k:PySem.W.findIn K (.ref c1h) "place" = some none)
  (x1r:QZ K c1r=true)
  (sa1r:PySem.W.findIn K (.ref c1r) "__setattr__" = some (some (.builtin "object.__setattr__")))
  (ga1r:PySem.W.findIn K (.ref c1r) "__getattribute__" = some (some (.builtin "BaseException.__getattribute__")))
  (gh1r:PySem.W.findIn K (.ref c1r) "__getattr__" = some none)
  (u1r:Q6 K c1r c1h=true)
  (kc1r:PySem.W.keepIn K (.ref c1r)=true)
  (n1t:PySem.W.findIn K (.ref c1r) "number" = some none)
  (n1u:PySem.W.findIn K (.ref c1r) "place" = some none)
  (x1K:QZ K c1K=true)
  (sa1K:PySem.W.findIn K (.ref c1K) "__setattr__" = some (some (.builtin "object.__setattr__")))
  (ga1K:PySem.W.findIn K (.ref c1K) "__getattribute__" = some (some (.builtin "BaseException.__getattribute__")))
  (gh1K:PySem.W.findIn K (.ref c1K) "__getattr__" = some none)
  (u1K:Q6 K c1K c1h=true)
  (kc1K:PySem.W.keepIn K (.ref c1K)=true)
  (n1M:PySem.W.findIn K (.ref c1K) "number" = some none)
  (n1N:PySem.W.findIn K (.ref c1K) "place" = some none)
  (x1G:QZ K c1G=true)
  (sa1G:PySem.W.findIn K (.ref c1G) "__setattr__" = some (some (.builtin "object.__setattr__")))
  (ga1G:PySem.W.findIn K (.ref c1G) "__getattribute__" = some (some (.builtin "BaseException.__getattribute__")))
  (gh1G:PySem.W.findIn K (.ref c1G) "__getattr__" = some none)
  (u1G:Q6 K c1G c1h=true)
  (kc1G:PySem.W.keepIn K (.ref c1G)=true)
  (n1I:PySem.W.findIn K (.ref c1G) "number" = some none)
  (n1J:PySem.W.findIn K (.ref c1G) "place" = some none)
  (x0D:QZ K c0D=true)
  (sa0D:PySem.W.findIn K (.ref c0D) "__setattr__" = some (some (.builtin "object.__setattr__")))
  (ga0D:PySem.W.findIn K (.ref c0D) "__getattribute__" = some (some (.builtin "BaseException.__getattribute__")))
  (gh0D:PySem.W.findIn K (.ref c0D) "__getattr__" = some none)
  (u0D:Q6 K c0D c1h=true)
  (kc0D:PySem.W.keepIn K (.ref c0D)=true)
  (n0F:PySem.W.findIn K (.ref c0D) "number" = some none)
  (n0G:PySem.W.findIn K (.ref c0D) "place" = some none)
  (x0Q:QZ K c0Q=true)
  (sa0Q:PySem.W.findIn K (.ref c0Q) "__setattr__" = some (some (.builtin "object.__setattr__")))
  (ga0Q:PySem.W.findIn K (.ref c0Q) "__getattribute__" = some (some (.builtin "BaseException.__getattribute__")))
  (gh0Q:PySem.W.findIn K (.ref c0Q) "__getattr__" = some none)
  (u0Q:Q6 K c0Q c1h=true)
  (kc0Q:PySem.W.keepIn K (.ref c0Q)=true)
  (n0S:PySem.W.findIn K (.ref c0Q) "number" = some none)
  (n0T:PySem.W.findIn K (.ref c0Q) "place" = some none)
  (x1A:QZ K c1A=true)
  (sa1A:PySem.W.findIn K (.ref c1A) "__setattr__" = some (some (.builtin "object.__setattr__")))
  (ga1A:PySem.W.findIn K (.ref c1A) "__getattribute__" = some (some (.builtin "BaseException.__getattribute__")))
  (gh1A:PySem.W.findIn K (.ref c1A) "__getattr__" = some none)
  (u1A:Q6 K c1A c1h=true)
  (kc1A:PySem.W.keepIn K (.ref c1A)=true)
  (n1C:PySem.W.findIn K (.ref c1A) "number" = some none)
  (n1D:PySem.W.findIn K (.ref c1A) "place" = some none)
  (cg:PySem.W.specialIn K (.ref c1h) "__getattribute__" = some (some (.builtin "type.__getattribute__")))
  (cr:PySem.W.readsIn K c1h (.type "type")=true)
  (cf:PySem.W.findCls K (.ref c1h) (.type "type") "__init__" = some (.val (.ref f1i)))
  (g1q:PySem.W.nsIn K mainGlobals "TAB" = some (some (.int (9) j1q)))
  (g0C:PySem.W.nsIn K mainGlobals "LINE_FEED" = some (some (.int (10) j0C)))
  (g12:PySem.W.nsIn K mainGlobals "RETURN" = some (some (.int (13) j12)))
  (g02:PySem.W.nsIn K mainGlobals "BLANK" = some (some (.int (32) j02)))
  (g10:PySem.W.nsIn K mainGlobals "QUOTE" = some (some (.int (34) j10)))
  (g0x:PySem.W.nsIn K mainGlobals "HASH" = some (some (.int (35) j0x)))
  (g0s:PySem.W.nsIn K mainGlobals "DOLLAR" = some (some (.int (36) j0s)))
  (g0H:PySem.W.nsIn K mainGlobals "MINUS" = some (some (.int (45) j0H)))
  (g1O:PySem.W.nsIn K mainGlobals "ZERO" = some (some (.int (48) j1O)))
  (g01:PySem.W.nsIn K mainGlobals "BACKSLASH" = some (some (.int (92) j01)))
  (g1E:PySem.W.nsIn K mainGlobals "UNDERSCORE" = some (some (.int (95) j1E)))
  (g0B:PySem.W.nsIn K mainGlobals "LEFT_BRACE" = some (some (.int (123) j0B)))
  (g13:PySem.W.nsIn K mainGlobals "RIGHT_BRACE" = some (some (.int (125) j13)))
  (g0L:PySem.W.nsIn K mainGlobals "MOST_NAME_BYTES" = some (some (.int (32) j0L)))
  (g0J:PySem.W.nsIn K mainGlobals "MOST_DIGITS" = some (some (.int (30) j0J)))
  (g0O:PySem.W.nsIn K mainGlobals "NOTHING" = some (some (.int (-1) j0O)))
  (g0N:PySem.W.nsIn K mainGlobals "MOST_TEXT_BYTES" = some (some (.int (2048) j0N)))
  (g0K:PySem.W.nsIn K mainGlobals "MOST_LEVELS" = some (some (.int (40) j0K)))
  (g0I:PySem.W.nsIn K mainGlobals "MOST_DEPTH" = some (some (.int (40) j0I)))
  (g1Z:PySem.W.nsIn K mainGlobals "len" = some none)
  (g26:PySem.W.nsIn K mainGlobals "ord" = some none)
  (g21:PySem.W.nsIn K mainGlobals "max" = some none)
  (g2d:PySem.W.nsIn K mainGlobals "tuple" = some none)
  (g1F:PySem.W.nsIn K mainGlobals "WORDS" = some (some (.ref t1F)))
  (h1F:qaN K t1F Zw=true)
  (g1l:PySem.W.nsIn K mainGlobals "SIGNS" = some (some (.ref t1l)))
  (h1l:qaN K t1l Qu=true)
  (g00:PySem.W.nsIn K mainGlobals "ATOM_BEGINNINGS" = some (some (.ref t00)))
  (h00:qaN K t00 qbN=true)
  (g0t:PySem.W.nsIn K mainGlobals "ESCAPES" = some (some (.ref t0t)))
  (h0t:K.lookup t0t=some ⟨.type "dict",none,.dict e0t m0t,#[]⟩)
  (s0t:(t0t == sysModules)=false)
  (g0w:PySem.W.nsIn K mainGlobals "GRAMMAR" = some (some (.ref t0w)))
  (h0w:K.lookup t0w=some ⟨.type "dict",none,.dict e0w m0w,#[]⟩)
  (s0w:(t0w == sysModules)=false)
  (p0t:Paired (qbY w) ZV e0t.toList)
  (p0w:Paired (qbY w) (Qm.map fun r=>(Sum.inr r.1,V.ref (qeH e0w r.1))) e0w.toList)
  (q0w:(Qm.all fun r=>qaN K (qeH e0w r.1) r.2)=true)
  (g0z:PySem.W.nsIn K mainGlobals "KIND_NUMBERS" = some (some (.ref t0z)))
  (h0z:K.lookup t0z=some ⟨.type "dict",none,.dict e0z m0z,#[]⟩)
  (s0z:(t0z == sysModules)=false)
  (p0z:Paired (qbY w) qdE e0z.toList)
  (x1m:QZ K c1m=true)
  (sa1m:PySem.W.findIn K (.ref c1m) "__setattr__" = some (some (.builtin "object.__setattr__")))
  (ga1m:PySem.W.findIn K (.ref c1m) "__getattribute__" = some (some (.builtin "BaseException.__getattribute__")))
  (gh1m:PySem.W.findIn K (.ref c1m) "__getattr__" = some none)
  (u1m:Q6 K c1m c1h=true)
  (kc1m:PySem.W.keepIn K (.ref c1m)=true)
  (n1o:PySem.W.findIn K (.ref c1m) "number" = some none)
  (n1p:PySem.W.findIn K (.ref c1m) "place" = some none)
  : ∃ fd:FuncData,(∀ (s:Shared) (us:List Value),us.length=(["a","b"]:List Str).length->BindsTo s fd ⟨us,[]⟩ ((["a","b"]:List Str).zip us))/\∀ base:Heap,K.In base->base.Ns mainGlobals mg->qB P w K mg base CX0 10 fa fd ["a","b"] (qeN K):=by
 have e:=hfa.symm.trans (PySem.W.mg_of X G a2b)
 cases e
 have nE:(ZV.map (·.1)).Nodup:=by decide +kernel
 have nG:((Qm.map fun r=>((Sum.inr r.1:Key),V.ref (qeH e0w r.1))).map (·.1)).Nodup:=by rw [List.map_map]; exact qgn
 have T:Tx P w K mg ⟨c1v,c08,c0U,c03,c14,c1h,c1r,c1K,c1G,c0D,c0Q,c1A,t1F,t1l,t00,t0t,t0w,qeH e0w⟩:=⟨⟨pg1v,hd1v,po1v,sa1v⟩,n1y,n1z,n1w,⟨pg08,hd08,po08,sa08⟩,n0q,n0p,n0r,n0n,n0k,n0i,⟨pg0U,hd0U,po0U,sa0U⟩,n0Y,n0Z,n0X,n0V,⟨pg03,hd03,po03,sa03⟩,n04,n06,n07,⟨pg14,hd14,po14,sa14⟩,n1f,n16,n1c,n1g,n18,n17,⟨x1h,sa1h,ga1h,gh1h⟩,n1j,n1k,Zd u1h,⟨x1r,sa1r,ga1r,gh1r⟩,n1t,n1u,Zd u1r,⟨x1K,sa1K,ga1K,gh1K⟩,n1M,n1N,Zd u1K,⟨x1G,sa1G,ga1G,gh1G⟩,n1I,n1J,Zd u1G,⟨x0D,sa0D,ga0D,gh0D⟩,n0F,n0G,Zd u0D,⟨x0Q,sa0Q,ga0Q,gh0Q⟩,n0S,n0T,Zd u0Q,⟨x1A,sa1A,ga1A,gh1A⟩,n1C,n1D,Zd u1A,zy X G g1q,zy X G g0C,zy X G g12,zy X G g02,zy X G g10,zy X G g0x,zy X G g0s,zy X G g0H,zy X G g1O,zy X G g01,zy X G g1E,zy X G g0B,zy X G g13,zy X G g0L,zy X G g0J,zy X G g0O,zy X G g0N,zy X G g0K,zy X G g0I,Zn X G g1F,qaO h1F,Zn X G g1l,qaO h1l,Zn X G g00,qaO h00,Zn X G g0t,qbk h0t s0t p0t nE,Zn X G g0w,qbk h0w s0w p0w nG,fun r hr=>qaO (List.all_eq_true.mp q0w r hr),PySem.W.mg_none_of X G g1Z,PySem.W.mg_none_of X G g26,PySem.W.mg_none_of X G g21,PySem.W.mg_none_of X G g2d⟩
 have F1i:=qA (st:=z9) l1i b1i k1i
 have B1i:=F1i.binds (ps:=["self","number","place"]) fun _ _ _ _ _ _ us hl=>match us,hl with | [_,_,_],_=>rfl
 have F1s:=qA (st:=zL) l1s b1s k1s
 have B1s:=F1s.binds (ps:=["self"]) fun _ _ _ _ _ _ us hl=>match us,hl with | [_],_=>rfl
 have F1L:=qA (st:=zY) l1L b1L k1L
 have B1L:=F1L.binds (ps:=["self","place"]) fun _ _ _ _ _ _ us hl=>match us,hl with | [_,_],_=>rfl
 have F1H:=qA (st:=zM) l1H b1H k1H
 have B1H:=F1H.binds (ps:=["self","place"]) fun _ _ _ _ _ _ us hl=>match us,hl with | [_,_],_=>rfl
 have F0E:=qA (st:=zC) l0E b0E k0E
 have B0E:=F0E.binds (ps:=["self","place"]) fun _ _ _ _ _ _ us hl=>match us,hl with | [_,_],_=>rfl
 have F0R:=qA (st:=ja) l0R b0R k0R
 have B0R:=F0R.binds (ps:=["self","place"]) fun _ _ _ _ _ _ us hl=>match us,hl with | [_,_],_=>rfl
 have F1B:=qA (st:=zN) l1B b1B k1B
 have B1B:=F1B.binds (ps:=["self"]) fun _ _ _ _ _ _ us hl=>match us,hl with | [_],_=>rfl
 have F1n:=qA (st:=zZ) l1n b1n k1n
 have B1n:=F1n.binds (ps:=["self","met"]) fun _ _ _ _ _ _ us hl=>match us,hl with | [_,_],_=>rfl
 have F0W:=qA (st:=jY) l0W b0W k0W
 have B0W:=F0W.binds (ps:=["self","kind","labels","kids"]) fun _ _ _ _ _ _ us hl=>match us,hl with | [_,_,_,_],_=>rfl
 have F29:=qA (st:=jv) l29 b29 k29
 have B29:=F29.binds (ps:=["tree"]) fun _ _ _ _ _ _ us hl=>match us,hl with | [_],_=>rfl
 have F23:=qA (st:=Qo) l23 b23 k23
 have B23:=F23.binds (ps:=["tree"]) fun _ _ _ _ _ _ us hl=>match us,hl with | [_],_=>rfl
 have F25:=qA (st:=zD) l25 b25 k25
 have B25:=F25.binds (ps:=["labels"]) fun _ _ _ _ _ _ us hl=>match us,hl with | [_],_=>rfl
 have F24:=qA (st:=jL) l24 b24 k24
 have B24:=F24.binds (ps:=["tree"]) fun _ _ _ _ _ _ us hl=>match us,hl with | [_],_=>rfl
 have F1P:=qA (st:=Qp) l1P b1P k1P
 have B1P:=F1P.binds (ps:=["written"]) fun _ _ _ _ _ _ us hl=>match us,hl with | [_],_=>rfl
 have F1x:=qA (st:=jM) l1x b1x k1x
 have B1x:=F1x.binds (ps:=["self","kind","place","held"]) fun _ _ _ _ _ _ us hl=>match us,hl with | [_,_,_,_],_=>rfl
 have F1W:=qA (st:=jZ) l1W b1W k1W
 have B1W:=F1W.binds (ps:=["byte"]) fun _ _ _ _ _ _ us hl=>match us,hl with | [_],_=>rfl
 have F1U:=qA (st:=Qq) l1U b1U k1U
 have B1U:=F1U.binds (ps:=["byte"]) fun _ _ _ _ _ _ us hl=>match us,hl with | [_],_=>rfl
 have F1V:=qA (st:=jN) l1V b1V k1V
 have B1V:=F1V.binds (ps:=["byte"]) fun _ _ _ _ _ _ us hl=>match us,hl with | [_],_=>rfl
 have F1Y:=qA (st:=jo) l1Y b1Y k1Y
 have B1Y:=F1Y.binds (ps:=["held"]) fun _ _ _ _ _ _ us hl=>match us,hl with | [_],_=>rfl
 have F0l:=qA (st:=jw) l0l b0l k0l
 have B0l:=F0l.binds (ps:=["self","text"]) fun _ _ _ _ _ _ us hl=>match us,hl with | [_,_],_=>rfl
 have F0a:=qA (st:=jb) l0a b0a k0a
 have B0a:=F0a.binds (ps:=["self","place"]) fun _ _ _ _ _ _ us hl=>match us,hl with | [_,_],_=>rfl
 have F09:=qA (st:=zO) l09 b09 k09
 have B09:=F09.binds (ps:=["self","kind","length","held"]) fun _ _ _ _ _ _ us hl=>match us,hl with | [_,_,_,_],_=>rfl
 have F0e:=qA (st:=zt) l0e b0e k0e
 have B0e:=F0e.binds (ps:=["self"]) fun _ _ _ _ _ _ us hl=>match us,hl with | [_],_=>rfl
 have F0o:=qA (st:=zl) l0o b0o k0o
 have B0o:=F0o.binds (ps:=["self"]) fun _ _ _ _ _ _ us hl=>match us,hl with | [_],_=>rfl
 have F0c:=qA (st:=z0) l0c b0c k0c
 have B0c:=F0c.binds (ps:=["self"]) fun _ _ _ _ _ _ us hl=>match us,hl with | [_],_=>rfl
 have F0d:=qA (st:=zE) l0d b0d k0d
 have B0d:=F0d.binds (ps:=["self"]) fun _ _ _ _ _ _ us hl=>match us,hl with | [_],_=>rfl
 have F0g:=qA (st:=zb) l0g b0g k0g
 have B0g:=F0g.binds (ps:=["self"]) fun _ _ _ _ _ _ us hl=>match us,hl with | [_],_=>rfl
 have F0h:=qA (st:=z5) l0h b0h k0h
 have B0h:=F0h.binds (ps:=["self"]) fun _ _ _ _ _ _ us hl=>match us,hl with | [_],_=>rfl
 have F0b:=qA (st:=zu) l0b b0b k0b
 have B0b:=F0b.binds (ps:=["self"]) fun _ _ _ _ _ _ us hl=>match us,hl with | [_],_=>rfl
 have F0f:=qA (st:=zP) l0f b0f k0f
 have B0f:=F0f.binds (ps:=["self"]) fun _ _ _ _ _ _ us hl=>match us,hl with | [_],_=>rfl
 have F0m:=qA (st:=zf) l0m b0m k0m
 have B0m:=F0m.binds (ps:=["self"]) fun _ _ _ _ _ _ us hl=>match us,hl with | [_],_=>rfl
 have F0j:=qA (st:=zw) l0j b0j k0j
 have B0j:=F0j.binds (ps:=["self"]) fun _ _ _ _ _ _ us hl=>match us,hl with | [_],_=>rfl
 have F1R:=qA (st:=qaL) l1R b1R k1R
 have B1R:=F1R.binds (ps:=["text"]) fun _ _ _ _ _ _ us hl=>match us,hl with | [_],_=>rfl
 have F05:=qA (st:=jO) l05 b05 k05
 have B05:=F05.binds (ps:=["self","first"]) fun _ _ _ _ _ _ us hl=>match us,hl with | [_,_],_=>rfl
 have F1T:=qA (st:=Z2) l1T b1T k1T
 have B1T:=F1T.binds (ps:=["first","kind"]) fun _ _ _ _ _ _ us hl=>match us,hl with | [_,_],_=>rfl
 have F1Q:=qA (st:=QW) l1Q b1Q k1Q
 have B1Q:=F1Q.binds (ps:=["part","kind"]) fun _ _ _ _ _ _ us hl=>match us,hl with | [_,_],_=>rfl
 have F22:=qA (st:=j4) l22 b22 k22
 have B22:=F22.binds (ps:=["names","token"]) fun _ _ _ _ _ _ us hl=>match us,hl with | [_,_],_=>rfl
 have F1b:=qA (st:=jx) l1b b1b k1b
 have B1b:=F1b.binds (ps:=["self","tokens"]) fun _ _ _ _ _ _ us hl=>match us,hl with | [_,_],_=>rfl
 have F1e:=qA (st:=jy) l1e b1e k1e
 have B1e:=F1e.binds (ps:=["self"]) fun _ _ _ _ _ _ us hl=>match us,hl with | [_],_=>rfl
 have F1d:=qA (st:=zF) l1d b1d k1d
 have B1d:=F1d.binds (ps:=["self","kind"]) fun _ _ _ _ _ _ us hl=>match us,hl with | [_,_],_=>rfl
 have F15:=qA (st:=jP) l15 b15 k15
 have B15:=F15.binds (ps:=["self","action"]) fun _ _ _ _ _ _ us hl=>match us,hl with | [_,_],_=>rfl
 have F1a:=qA (st:=zx) l1a b1a k1a
 have B1a:=F1a.binds (ps:=["self"]) fun _ _ _ _ _ _ us hl=>match us,hl with | [_],_=>rfl
 have F19:=qA (st:=z6) l19 b19 k19
 have B19:=F19.binds (ps:=["self","kind"]) fun _ _ _ _ _ _ us hl=>match us,hl with | [_,_],_=>rfl
 have F27:=qA (st:=Z3) l27 b27 k27
 have B27:=F27.binds (ps:=["text"]) fun _ _ _ _ _ _ us hl=>match us,hl with | [_],_=>rfl
 have F28:=qA (st:=jz) l28 b28 k28
 have B28:=F28.binds (ps:=["text"]) fun _ _ _ _ _ _ us hl=>match us,hl with | [_],_=>rfl
 have F2b:=qA (st:=s_same) l2b b2b k2b
 have B2b:=F2b.binds (ps:=["a","b"]) fun _ _ _ _ _ _ us hl=>match us,hl with | [_,_],_=>rfl
 refine ⟨PySem.W.fnOf "same" "same" (qr s_same) (qm s_same) (qe s_same) .none v2b d2b p2b y2b e2b t2b,fun s us hu=>match us,hu with | [_,_],_=>.of_eq rfl,fun base _ _=>?_⟩
 have O1i:=qbR (P:=P) (w:=w) (mg:=mg) (base:=base) F1i
 have GR:ClsAt P w K mg base 1 c1h "Refusal" "__init__" ["self","number","place"] (QP K):=⟨f1i,_,PySem.W.mg_of X G a1h,⟨cg,cr,cf,k1i⟩,O1i,B1i⟩
 have O1s:=JO (P:=P) (w:=w) (mg:=mg) (base:=base) F1s T GR
 have O1L:=qal (P:=P) (w:=w) (mg:=mg) (base:=base) F1L T GR
 have O1H:=JQ (P:=P) (w:=w) (mg:=mg) (base:=base) F1H T GR
 have O0E:=Jx (P:=P) (w:=w) (mg:=mg) (base:=base) F0E T GR
 have O0R:=qaS (P:=P) (w:=w) (mg:=mg) (base:=base) F0R T GR
 have O1B:=JS (P:=P) (w:=w) (mg:=mg) (base:=base) F1B T GR
 have O1W:=qer (P:=P) (w:=w) (mg:=mg) (base:=base) F1W
 have O1U:=qe8 (P:=P) (w:=w) (mg:=mg) (base:=base) F1U
 have O1V:=qdp (P:=P) (w:=w) (mg:=mg) (base:=base) F1V T ⟨f1W,_,PySem.W.mg_of X G a1W,O1W,k1W,B1W⟩ ⟨f1U,_,PySem.W.mg_of X G a1U,O1U,k1U,B1U⟩
 have O1P:=qe9 (P:=P) (w:=w) (mg:=mg) (base:=base) F1P T
 have O1Y:=qbS (P:=P) (w:=w) (mg:=mg) (base:=base) F1Y T ⟨f1P,_,PySem.W.mg_of X G a1P,O1P,k1P,B1P⟩
 have O1x:=qdr (P:=P) (w:=w) (mg:=mg) (base:=base) F1x T
 have O0l:=qcq (P:=P) (w:=w) (mg:=mg) (base:=base) F0l T
 have O0a:=qgd (P:=P) (w:=w) (mg:=mg) (base:=base) F0a T
 have O09:=qet (P:=P) (w:=w) (mg:=mg) (base:=base) F09 T ⟨f1x,_,PySem.W.mg_of X G a1v,⟨mk1v,a1x,i1x,kc1v⟩,O1x,B1x⟩
 have O0o:=qbU (P:=P) (w:=w) (mg:=mg) (base:=base) F0o T ⟨f0a,_,⟨a0a,i0a,k0a⟩,O0a,B0a⟩
 have O0c:=qfa (P:=P) (w:=w) (mg:=mg) (base:=base) F0c T ⟨f0a,_,⟨a0a,i0a,k0a⟩,O0a,B0a⟩ ⟨f1V,_,PySem.W.mg_of X G a1V,O1V,k1V,B1V⟩ ⟨f1Y,_,PySem.W.mg_of X G a1Y,O1Y,k1Y,B1Y⟩ ⟨f09,_,⟨a09,i09,k09⟩,O09,B09⟩ ⟨f1L,_,PySem.W.mg_of X G a1K,⟨T.x_WrongToken,a1L,i1L,kc1K⟩,O1L,B1L⟩
 have O0d:=qds (P:=P) (w:=w) (mg:=mg) (base:=base) F0d T ⟨f0a,_,⟨a0a,i0a,k0a⟩,O0a,B0a⟩ ⟨f1U,_,PySem.W.mg_of X G a1U,O1U,k1U,B1U⟩ ⟨f09,_,⟨a09,i09,k09⟩,O09,B09⟩ ⟨f1L,_,PySem.W.mg_of X G a1K,⟨T.x_WrongToken,a1L,i1L,kc1K⟩,O1L,B1L⟩
 have O0g:=qap (P:=P) (w:=w) (mg:=mg) (base:=base) F0g T ⟨f09,_,⟨a09,i09,k09⟩,O09,B09⟩
 have O0h:=qfd (P:=P) (w:=w) (mg:=mg) (base:=base) F0h T ⟨f1P,_,PySem.W.mg_of X G a1P,O1P,k1P,B1P⟩ ⟨f09,_,⟨a09,i09,k09⟩,O09,B09⟩ ⟨f1L,_,PySem.W.mg_of X G a1K,⟨T.x_WrongToken,a1L,i1L,kc1K⟩,O1L,B1L⟩
 have O0m:=qbj (P:=P) (w:=w) (mg:=mg) (base:=base) F0m T ⟨f0a,_,⟨a0a,i0a,k0a⟩,O0a,B0a⟩
 have O0j:=qcm (P:=P) (w:=w) (mg:=mg) (base:=base) F0j T ⟨f0a,_,⟨a0a,i0a,k0a⟩,O0a,B0a⟩ ⟨f1L,_,PySem.W.mg_of X G a1K,⟨T.x_WrongToken,a1L,i1L,kc1K⟩,O1L,B1L⟩
 have O0f:=qey (P:=P) (w:=w) (mg:=mg) (base:=base) F0f T ⟨f0m,_,⟨a0m,i0m,k0m⟩,O0m,B0m⟩ ⟨f0j,_,⟨a0j,i0j,k0j⟩,O0j,B0j⟩ ⟨f1x,_,PySem.W.mg_of X G a1v,⟨mk1v,a1x,i1x,kc1v⟩,O1x,B1x⟩
 have O0b:=qcn (P:=P) (w:=w) (mg:=mg) (base:=base) F0b T ⟨f0a,_,⟨a0a,i0a,k0a⟩,O0a,B0a⟩ ⟨f0f,_,⟨a0f,i0f,k0f⟩,O0f,B0f⟩ ⟨f09,_,⟨a09,i09,k09⟩,O09,B09⟩ ⟨f1L,_,PySem.W.mg_of X G a1K,⟨T.x_WrongToken,a1L,i1L,kc1K⟩,O1L,B1L⟩
 have O0e:=qco (P:=P) (w:=w) (mg:=mg) (base:=base) F0e T ⟨f0a,_,⟨a0a,i0a,k0a⟩,O0a,B0a⟩ ⟨f09,_,⟨a09,i09,k09⟩,O09,B09⟩ ⟨f1W,_,PySem.W.mg_of X G a1W,O1W,k1W,B1W⟩ ⟨f1U,_,PySem.W.mg_of X G a1U,O1U,k1U,B1U⟩ ⟨f0o,_,⟨a0o,i0o,k0o⟩,O0o,B0o⟩ ⟨f0c,_,⟨a0c,i0c,k0c⟩,O0c,B0c⟩ ⟨f0d,_,⟨a0d,i0d,k0d⟩,O0d,B0d⟩ ⟨f0g,_,⟨a0g,i0g,k0g⟩,O0g,B0g⟩ ⟨f0h,_,⟨a0h,i0h,k0h⟩,O0h,B0h⟩
 have O1R:=qkj (P:=P) (w:=w) (mg:=mg) (base:=base) F1R T ⟨f0l,_,PySem.W.mg_of X G a08,⟨mk08,a0l,i0l,kc08⟩,O0l,B0l⟩ ⟨f0b,_,⟨a0b,i0b,k0b⟩,O0b,B0b⟩ ⟨f0e,_,⟨a0e,i0e,k0e⟩,O0e,B0e⟩
 have O1T:=qjs (P:=P) (w:=w) (mg:=mg) (base:=base) F1T T
 have O1Q:=qhj (P:=P) (w:=w) (mg:=mg) (base:=base) F1Q T ⟨f1T,_,PySem.W.mg_of X G a1T,O1T,k1T,B1T⟩
 have O22:=qeF (P:=P) (w:=w) (mg:=mg) (base:=base) F22 T ⟨f0R,_,PySem.W.mg_of X G a0Q,⟨T.x_NameTwice,a0R,i0R,kc0Q⟩,O0R,B0R⟩
 have O0W:=qeE (P:=P) (w:=w) (mg:=mg) (base:=base) F0W T
 have O05:=qdu (P:=P) (w:=w) (mg:=mg) (base:=base) F05 T
 have O1b:=qcy (P:=P) (w:=w) (mg:=mg) (base:=base) F1b T
 have O1d:=qdv (P:=P) (w:=w) (mg:=mg) (base:=base) F1d T ⟨f1H,_,PySem.W.mg_of X G a1G,⟨T.x_WrongSyntax,a1H,i1H,kc1G⟩,O1H,B1H⟩
 have O1a:=qcv (P:=P) (w:=w) (mg:=mg) (base:=base) F1a T ⟨f0E,_,PySem.W.mg_of X G a0D,⟨T.x_LevelTooDeep,a0E,i0E,kc0D⟩,O0E,B0E⟩
 have O19:=qff (P:=P) (w:=w) (mg:=mg) (base:=base) F19 T ⟨f0W,_,PySem.W.mg_of X G a0U,⟨mk0U,a0W,i0W,kc0U⟩,O0W,B0W⟩
 have O15:=qkn (P:=P) (w:=w) (mg:=mg) (base:=base) F15 T ⟨f05,_,PySem.W.mg_of X G a03,⟨mk03,a05,i05,kc03⟩,O05,B05⟩ ⟨f22,_,PySem.W.mg_of X G a22,O22,k22,B22⟩ ⟨f1a,_,⟨a1a,i1a,k1a⟩,O1a,B1a⟩ ⟨f19,_,⟨a19,i19,k19⟩,O19,B19⟩
 have O1e:=qju (P:=P) (w:=w) (mg:=mg) (base:=base) F1e T ⟨f1Q,_,PySem.W.mg_of X G a1Q,O1Q,k1Q,B1Q⟩ ⟨f15,_,⟨a15,i15,k15⟩,O15,B15⟩ ⟨f1d,_,⟨a1d,i1d,k1d⟩,O1d,B1d⟩
 have O29:=qcA (P:=P) (w:=w) (mg:=mg) (base:=base) F29 T ⟨f1B,_,PySem.W.mg_of X G a1A,⟨T.x_TreeTooDeep,a1B,i1B,kc1A⟩,O1B,B1B⟩
 have O27:=qjw (P:=P) (w:=w) (mg:=mg) (base:=base) F27 T ⟨f1s,_,PySem.W.mg_of X G a1r,⟨T.x_TextTooLong,a1s,i1s,kc1r⟩,O1s,B1s⟩ ⟨f1R,_,PySem.W.mg_of X G a1R,O1R,k1R,B1R⟩ ⟨f1b,_,PySem.W.mg_of X G a14,⟨mk14,a1b,i1b,kc14⟩,O1b,B1b⟩ ⟨f1e,_,⟨a1e,i1e,k1e⟩,O1e,B1e⟩ ⟨f29,_,PySem.W.mg_of X G a29,O29,k29,B29⟩
 have Q1m:Xc K c1m c1h:=⟨⟨x1m,sa1m,ga1m,gh1m⟩,n1o,n1p,Zd u1m⟩
 have O_RU:=qbm (P:=P) (w:=w) (mg:=mg) (base:=base) F1i
 have GU:qeL P w K mg base 1 c1h "Refusal" "__init__" ["self","number","place"] (QP K):=⟨f1i,_,PySem.W.mg_of X G a1h,⟨cg,cr,cf,k1i⟩,O_RU,B1i⟩
 have O1n:=qaz (P:=P) (w:=w) (mg:=mg) (base:=base) (a:=⟨c1v,c08,c0U,c03,c14,c1h,c1r,c1K,c1G,c0D,c0Q,c1A,t1F,t1l,t00,t0t,t0w,qeH e0w⟩) F1n Q1m GU
 have O28:=qcE (P:=P) (w:=w) (mg:=mg) (base:=base) F28 T (PySem.W.mg_of X G a1h) Q1m ⟨f27,_,PySem.W.mg_of X G a27,O27,k27,B27⟩ ⟨f1n,_,PySem.W.mg_of X G a1m,⟨Q1m.x,a1n,i1n,kc1m⟩,O1n,B1n⟩
 have nK:(qdE.map (·.1)).Nodup:=by decide +kernel
 have O23:=qfg (P:=P) (w:=w) (mg:=mg) (base:=base) F23 T
 have O25:=JD (P:=P) (w:=w) (mg:=mg) (base:=base) F25 T
 have O24:=qdw (P:=P) (w:=w) (mg:=mg) (base:=base) F24 T (Zn X G g0z) (qbk h0z s0z p0z nK) ⟨f23,_,PySem.W.mg_of X G a23,O23,k23,B23⟩ ⟨f25,_,PySem.W.mg_of X G a25,O25,k25,B25⟩
 exact qjx (P:=P) (w:=w) (mg:=mg) (base:=base) F2b T (PySem.W.mg_of X G a1h) ⟨f27,_,PySem.W.mg_of X G a27,O27,k27,B27⟩ ⟨f24,_,PySem.W.mg_of X G a24,O24,k24,B24⟩ ⟨f28,_,PySem.W.mg_of X G a28,O28,k28,B28⟩
end RT
end
def PySem.W.Fast.tw7437341065836045799:=()
def PySem.W.Fast.tw9285088218030374876:=()
def PySem.W.Fast.tw12282784807843749855:=()
def PySem.W.Fast.tw12342719146238914326:=()
def PySem.W.Fast.tw17622026786958985287:=()
def PySem.W.Fast.tw17909299549723834046:=()
def PySem.W.Fast.tw1138714609339936469:=()
def PySem.W.Fast.tw14781829784201763777:=()
def PySem.W.Fast.tw9352776859658576163:=()
def PySem.W.Fast.tw8784444788983230267:=()
def PySem.W.Fast.tw8410042811822540010:=()
def PySem.W.Fast.tw4904032792665702545:=()
def PySem.W.Fast.tw3724989395381567229:=()
def PySem.W.Fast.tw18417185265179334213:=()
def PySem.W.Fast.tw18166145577486575729:=()
def PySem.W.Fast.tw4228653393072622337:=()
def PySem.W.Fast.tw6259257786614054694:=()
def PySem.W.Fast.tw7990188758036003995:=()
def PySem.W.Fast.tw4709523774205979078:=()
def PySem.W.Fast.tw17364821000807227071:=()
def PySem.W.Fast.tw16800877835350307656:=()
def PySem.W.Fast.tw5214611309972887637:=()
def PySem.W.Fast.tw12118595852018510063:=()
def PySem.W.Fast.tw2897608521866926747:=()
def PySem.W.Fast.tw9390227695773344284:=()
def PySem.W.Fast.tw12397035858388207707:=()
def PySem.W.Fast.tw7574734665897556965:=()
def PySem.W.Fast.tw14288553202094945225:=()
def PySem.W.Fast.tw5064910388221740957:=()
def PySem.W.Fast.tw10178462035569390480:=()
def PySem.W.Fast.tw4776340671723514289:=()
def PySem.W.Fast.tw6521764042202772319:=()
def PySem.W.Fast.tw10494694320535790978:=()
def PySem.W.Fast.tw6592387461475073207:=()
def PySem.W.Fast.tw15239348044408203346:=()
def PySem.W.Fast.tw1657169530550254560:=()
def PySem.W.Fast.tw12632641627107397481:=()
def PySem.W.Fast.tw1203398910765595675:=()
def PySem.W.Fast.tw8573111975060928083:=()
def PySem.W.Fast.tw10678952808045092151:=()
def PySem.W.Fast.tw14463167607063046067:=()
def PySem.W.Fast.tw16390993887068442924:=()
def PySem.W.Fast.tw18054644670294391456:=()
def PySem.W.Fast.tw14481957004943240590:=()
def PySem.W.Fast.tw10634024610278495543:=()
def PySem.W.Fast.tw17863896426746187813:=()
def PySem.W.Fast.tw6834963530436826745:=()
def PySem.W.Fast.tw3138401636689092025:=()
def PySem.W.Fast.tw11681709002380428789:=()
def PySem.W.Fast.tw5235551898777119326:=()
def PySem.W.Fast.tw545110007269489733:=()
def PySem.W.Fast.tw2317193230625872750:=()
def PySem.W.Fast.tw5827965005396984450:=()
def PySem.W.Fast.tw10693700212702175549:=()
def PySem.W.Fast.tw2512267972923403318:=()
def PySem.W.Fast.tw16503821021219812276:=()
def PySem.W.Fast.tw9527966978601180983:=()
def PySem.W.Fast.tw6473293134895225664:=()
def PySem.W.Fast.tw14226404604255433117:=()
def PySem.W.Fast.tw13214580307528003602:=()
def PySem.W.Fast.tw13079105292723522502:=()
def PySem.W.Fast.tw17446916813155484337:=()
def PySem.W.Fast.tw1729928228265479201:=()
def PySem.W.Fast.tw18209203473323432229:=()
def PySem.W.Fast.tw13353375049263467276:=()
def PySem.W.Fast.tw2157674263446574850:=()
def PySem.W.Fast.tw13890660296498061696:=()
def PySem.W.Fast.tw14491114972329508850:=()
def PySem.W.Fast.tw6726434654356547045:=()
def PySem.W.Fast.tw264540670609545746:=()
def PySem.W.Fast.tw18041241452555408846:=()
def PySem.W.Fast.tw18021986514763224611:=()
def PySem.W.Fast.tw16530553070171710000:=()
def PySem.W.Fast.tw8722934856797019093:=()
def PySem.W.Fast.tw7685872024912071762:=()
def PySem.W.Fast.tw8819364143158268071:=()
def PySem.W.Fast.tw1939187401593450868:=()
def PySem.W.Fast.tw269325506712387457:=()
def PySem.W.Fast.tw14833806400707876861:=()
def PySem.W.Fast.tw15583471683300175058:=()
def PySem.W.Fast.tw6789253750850426199:=()
def PySem.W.Fast.tw6885787163767226467:=()
def PySem.W.Fast.tw3095414204314181535:=()
def PySem.W.Fast.tw13138138446034185512:=()
def PySem.W.Fast.tw12304468734702299446:=()
def PySem.W.Fast.tw3960229260724415066:=()
def PySem.W.Fast.tw15547953547579558118:=()
def PySem.W.Fast.tw1825534417433678833:=()
def PySem.W.Fast.tw10015439289174910147:=()
def PySem.W.Fast.tw13609381960508864551:=()
def PySem.W.Fast.tw7212968972821904428:=()
def PySem.W.Fast.tw16881919349692788260:=()
def PySem.W.Fast.tw3704666190246225063:=()
def PySem.W.Fast.tw17267604900103239907:=()
def PySem.W.Fast.tw14650507008521401920:=()
def PySem.W.Fast.tw3773298219367292574:=()
def PySem.W.Fast.tw15126110566011311953:=()
def PySem.W.Fast.tw12971043326484037746:=()
def PySem.W.Fast.tw1589106376708882230:=()
def PySem.W.Fast.tw3563651004313137834:=()
def PySem.W.Fast.tw6460879026961079130:=()
def PySem.W.Fast.tw10748486983277955653:=()
def PySem.W.Fast.tw1545817755165341970:=()
def PySem.W.Fast.tw17687028547920645188:=()
def PySem.W.Fast.tw8924184602196253261:=()
def PySem.W.Fast.tw5234261651600183408:=()
def PySem.W.Fast.tw3183874005745226061:=()
def PySem.W.Fast.tw3327632877513284005:=()
def PySem.W.Fast.tw5837031368750583442:=()
def PySem.W.Fast.tw15906102409542874239:=()
def PySem.W.Fast.tw12874005886782952121:=()
def PySem.W.Fast.tw10614975218283868858:=()
def PySem.W.Fast.tw17622432744868908612:=()
def PySem.W.Fast.tw5256221261504589936:=()
def PySem.W.Fast.tw2358576756400685721:=()
def PySem.W.Fast.tw2943971426946290352:=()
def PySem.W.Fast.tw9482939173433362361:=()
def PySem.W.Fast.tw6379731431209151265:=()
def PySem.W.Fast.tw5761193215068929203:=()
def PySem.W.Fast.tw15588057871061665458:=()
def PySem.W.Fast.tw17162184092226157994:=()
def PySem.W.Fast.tw7118296847949272662:=()
def PySem.W.Fast.tw1429693785347168775:=()
def PySem.W.Fast.tw11722412965812685043:=()
def PySem.W.Fast.tw8126203237574283532:=()
def PySem.W.Fast.tw18124214781802448635:=()
def PySem.W.Fast.tw6434973575544446472:=()
def PySem.W.Fast.tw3670486167892947855:=()
def PySem.W.Fast.tw3288448709433844745:=()
def PySem.W.Fast.tw1526925631865760836:=()
def PySem.W.Fast.tw16481329956588943313:=()
def PySem.W.Fast.tw18000958447893946151:=()
def PySem.W.Fast.tw15282919274569021897:=()
def PySem.W.Fast.tw16048311737761958487:=()
def PySem.W.Fast.tw14356303398479669992:=()
def PySem.W.Fast.tw18072005590325414319:=()
def PySem.W.Fast.tw14137232759151970708:=()
def PySem.W.Fast.tw145868102495733322:=()
def PySem.W.Fast.tw6195976530814919943:=()
def PySem.W.Fast.tw5239546332886206303:=()
def PySem.W.Fast.tw3137727327229385335:=()
def PySem.W.Fast.tw13794213256678192633:=()
def PySem.W.Fast.tw8380412638895501875:=()
def PySem.W.Fast.tw17286399343286683343:=()
def PySem.W.Fast.tw10911307531606440319:=()
def PySem.W.Fast.tw9581723795637202116:=()
def PySem.W.Fast.tw7435684238684330985:=()
def PySem.W.Fast.tw18260091723730954039:=()
def PySem.W.Fast.tw8849595926477683897:=()
def PySem.W.Fast.tw14822791760517486143:=()
def PySem.W.Fast.tw10134388340870227612:=()
def PySem.W.Fast.tw13202393779606208486:=()
def PySem.W.Fast.tw6419412090072429799:=()
def PySem.W.Fast.tw9403731211397124420:=()
def PySem.W.Fast.tw12851178733262661531:=()
def PySem.W.Fast.tw11204009004265594018:=()
def PySem.W.Fast.tw14778576873577285202:=()
def PySem.W.Fast.tw1356291858114072089:=()
def PySem.W.Fast.tw7909643526378221144:=()
def PySem.W.Fast.tw6549249626876924199:=()
def PySem.W.Fast.tw341162514048925823:=()
def PySem.W.Fast.tw4232154484399223839:=()
def PySem.W.Fast.tw14102754312078035687:=()
def PySem.W.Fast.tw16411764773504515051:=()
def PySem.W.Fast.tw11451583662348225199:=()
def PySem.W.Fast.tw14991723254140364109:=()
def PySem.W.Fast.tw16555497855569001914:=()
def PySem.W.Fast.tw10176541658004936521:=()
def PySem.W.Fast.tw15138089999667880243:=()
def PySem.W.Fast.tw16985466696740468813:=()
def PySem.W.Fast.tw4893695070749581905:=()
def PySem.W.Fast.tw4962930372260297820:=()
def PySem.W.Fast.tw86794896801569914:=()
def PySem.W.Fast.tw5486890589598901787:=()
def PySem.W.Fast.tw12663472834924562671:=()
def PySem.W.Fast.tw16781259861773002467:=()
def PySem.W.Fast.tw17115209253087267057:=()
def PySem.W.Fast.tw17890525251794605609:=()
def PySem.W.Fast.tw13269201750956468190:=()
def PySem.W.Fast.tw9804419047186689133:=()
def PySem.W.Fast.tw10634516521018965395:=()
def PySem.W.Fast.tw9425729905216032261:=()
def PySem.W.Fast.tw228193533630383748:=()
def PySem.W.Fast.tw11491498785303630160:=()
def PySem.W.Fast.tw5118769267743796888:=()
def PySem.W.Fast.tw17879303848488201565:=()
def PySem.W.Fast.tw243324729286258734:=()
def PySem.W.Fast.tw11288138956162563374:=()
def PySem.W.Fast.tw260813507313268620:=()
def PySem.W.Fast.tw17854842741701172023:=()
def PySem.W.Fast.tw14383960907272545364:=()
def PySem.W.Fast.tw6608487259238349041:=()
def PySem.W.Fast.tw14434053502560438534:=()
def PySem.W.Fast.tw3833479928238276960:=()
def PySem.W.Fast.tw2421234912658222852:=()
def PySem.W.Fast.tw14859741550142753196:=()
def PySem.W.Fast.tw13513558230665445032:=()
def PySem.W.Fast.tw5854129810161693710:=()
def PySem.W.Fast.tw13613055795860041080:=()
def PySem.W.Fast.tw12303719124454614251:=()
def PySem.W.Fast.tw1295753829461843935:=()
def PySem.W.Fast.tw15305184519056721511:=()
def PySem.W.Fast.tw7483675641846580805:=()
open PySem PySem.W PyProof.Rows
set_option maxRecDepth 100000 in
set_option maxHeartbeats 0 in
theorem PySem.Challenge.cw_recipetexts_s04_same_holds : PySem.Challenge.rw_recipetexts_s04_same.Holds := by
 w_on; k_headS; (case hw=>exact ⟨[.list [],.list []],by decide +kernel,by decide +kernel⟩)
 k_fillS
 refine L2.qfY (r:=PySem.Challenge.rw_recipetexts_s04_same) (k:=10) (CX:=L2.CX0) (ps:=["a","b"]) (sp:=RT.qeN) (by decide +kernel) rfl rfl ⟨rfl,by decide,by decide⟩ (fun w h Y=>PySem.W.kIn_of Y) ?F ?S (fun _ _ _ _ z=>z)
 case F=>
  intro w mg fa h Y KX G hmg
  refine' RT.qkr KX G hmg ?a1v ?a08 ?a0U ?a03 ?a14 ?a1h ?a1r ?a1K ?a1G ?a0D ?a0Q ?a1A ?a1m ?a1i ?a1s ?a1L ?a1H ?a0E ?a0R ?a1B ?a1n ?a0W ?a29 ?a23 ?a25 ?a24 ?a1P ?a1x ?a1W ?a1U ?a1V ?a1Y ?a0l ?a0a ?a09 ?a0e ?a0o ?a0c ?a0d ?a0g ?a0h ?a0b ?a0f ?a0m ?a0j ?a1R ?a05 ?a1T ?a1Q ?a22 ?a1b ?a1e ?a1d ?a15 ?a1a ?a19 ?a27 ?a28 ?a2b ?l1i ?b1i ?k1i ?i1i ?l1s ?b1s ?k1s ?i1s ?l1L ?b1L ?k1L ?i1L ?l1H ?b1H ?k1H ?i1H ?l0E ?b0E ?k0E ?i0E ?l0R ?b0R ?k0R ?i0R ?l1B ?b1B ?k1B ?i1B ?l1n ?b1n ?k1n ?i1n ?l0W ?b0W ?k0W ?i0W ?l29 ?b29 ?k29 ?l23 ?b23 ?k23 ?l25 ?b25 ?k25 ?l24 ?b24 ?k24 ?l1P ?b1P ?k1P ?l1x ?b1x ?k1x ?i1x ?l1W ?b1W ?k1W ?l1U ?b1U ?k1U ?l1V ?b1V ?k1V ?l1Y ?b1Y ?k1Y ?l0l ?b0l ?k0l ?i0l ?l0a ?b0a ?k0a ?i0a ?l09 ?b09 ?k09 ?i09 ?l0e ?b0e ?k0e ?i0e ?l0o ?b0o ?k0o ?i0o ?l0c ?b0c ?k0c ?i0c ?l0d ?b0d ?k0d ?i0d ?l0g ?b0g ?k0g ?i0g ?l0h ?b0h ?k0h ?i0h ?l0b ?b0b ?k0b ?i0b ?l0f ?b0f ?k0f ?i0f ?l0m ?b0m ?k0m ?i0m ?l0j ?b0j ?k0j ?i0j ?l1R ?b1R ?k1R ?l05 ?b05 ?k05 ?i05 ?l1T ?b1T ?k1T ?l1Q ?b1Q ?k1Q ?l22 ?b22 ?k22 ?l1b ?b1b ?k1b ?i1b ?l1e ?b1e ?k1e ?i1e ?l1d ?b1d ?k1d ?i1d ?l15 ?b15 ?k15 ?i15 ?l1a ?b1a ?k1a ?i1a ?l19 ?b19 ?k19 ?i19 ?l27 ?b27 ?k27 ?l28 ?b28 ?k28 ?l2b ?b2b ?k2b ?pg1v ?hd1v ?po1v ?sa1v ?mk1v ?kc1v ?n1y ?n1z ?n1w ?pg08 ?hd08 ?po08 ?sa08 ?mk08 ?kc08 ?n0q ?n0p ?n0r ?n0n ?n0k ?n0i ?pg0U ?hd0U ?po0U ?sa0U ?mk0U ?kc0U ?n0Y ?n0Z ?n0X ?n0V ?pg03 ?hd03 ?po03 ?sa03 ?mk03 ?kc03 ?n04 ?n06 ?n07 ?pg14 ?hd14 ?po14 ?sa14 ?mk14 ?kc14 ?n1f ?n16 ?n1c ?n1g ?n18 ?n17 ?x1h ?sa1h ?ga1h ?gh1h ?u1h ?kc1h ?n1j ?n1k ?x1r ?sa1r ?ga1r ?gh1r ?u1r ?kc1r ?n1t ?n1u ?x1K ?sa1K ?ga1K ?gh1K ?u1K ?kc1K ?n1M ?n1N ?x1G ?sa1G ?ga1G ?gh1G ?u1G ?kc1G ?n1I ?n1J ?x0D ?sa0D ?ga0D ?gh0D ?u0D ?kc0D ?n0F ?n0G ?x0Q ?sa0Q ?ga0Q ?gh0Q ?u0Q ?kc0Q ?n0S ?n0T ?x1A ?sa1A ?ga1A ?gh1A ?u1A ?kc1A ?n1C ?n1D ?cg ?cr ?cf ?g1q ?g0C ?g12 ?g02 ?g10 ?g0x ?g0s ?g0H ?g1O ?g01 ?g1E ?g0B ?g13 ?g0L ?g0J ?g0O ?g0N ?g0K ?g0I ?g1Z ?g26 ?g21 ?g2d ?g1F ?h1F ?g1l ?h1l ?g00 ?h00 ?g0t ?h0t ?s0t ?g0w ?h0w ?s0w ?p0t ?p0w ?q0w ?g0z ?h0z ?s0z ?p0z ?x1m ?sa1m ?ga1m ?gh1m ?u1m ?kc1m ?n1o ?n1p
  (case a1v=>k_is)
  (case a08=>k_is)
  (case a0U=>k_is)
  (case a03=>k_is)
  (case a14=>k_is)
  (case a1h=>k_is)
  (case a1r=>k_is)
  (case a1K=>k_is)
  (case a1G=>k_is)
  (case a0D=>k_is)
  (case a0Q=>k_is)
  (case a1A=>k_is)
  (case a1m=>k_is)
  (case a1i=>k_is)
  (case a1s=>k_is)
  (case a1L=>k_is)
  (case a1H=>k_is)
  (case a0E=>k_is)
  (case a0R=>k_is)
  (case a1B=>k_is)
  (case a1n=>k_is)
  (case a0W=>k_is)
  (case a29=>k_is)
  (case a23=>k_is)
  (case a25=>k_is)
  (case a24=>k_is)
  (case a1P=>k_is)
  (case a1x=>k_is)
  (case a1W=>k_is)
  (case a1U=>k_is)
  (case a1V=>k_is)
  (case a1Y=>k_is)
  (case a0l=>k_is)
  (case a0a=>k_is)
  (case a09=>k_is)
  (case a0e=>k_is)
  (case a0o=>k_is)
  (case a0c=>k_is)
  (case a0d=>k_is)
  (case a0g=>k_is)
  (case a0h=>k_is)
  (case a0b=>k_is)
  (case a0f=>k_is)
  (case a0m=>k_is)
  (case a0j=>k_is)
  (case a1R=>k_is)
  (case a05=>k_is)
  (case a1T=>k_is)
  (case a1Q=>k_is)
  (case a22=>k_is)
  (case a1b=>k_is)
  (case a1e=>k_is)
  (case a1d=>k_is)
  (case a15=>k_is)
  (case a1a=>k_is)
  (case a19=>k_is)
  (case a27=>k_is)
  (case a28=>k_is)
  (case a2b=>k_is)
  (case l1i=>k_is)
  (case b1i=>k_is)
  (case k1i=>k_is)
  (case i1i=>k_is)
  (case l1s=>k_is)
  (case b1s=>k_is)
  (case k1s=>k_is)
  (case i1s=>k_is)
  (case l1L=>k_is)
  (case b1L=>k_is)
  (case k1L=>k_is)
  (case i1L=>k_is)
  (case l1H=>k_is)
  (case b1H=>k_is)
  (case k1H=>k_is)
  (case i1H=>k_is)
  (case l0E=>k_is)
  (case b0E=>k_is)
  (case k0E=>k_is)
  (case i0E=>k_is)
  (case l0R=>k_is)
  (case b0R=>k_is)
  (case k0R=>k_is)
  (case i0R=>k_is)
  (case l1B=>k_is)
  (case b1B=>k_is)
  (case k1B=>k_is)
  (case i1B=>k_is)
  (case l1n=>k_is)
  (case b1n=>k_is)
  (case k1n=>k_is)
  (case i1n=>k_is)
  (case l0W=>k_is)
  (case b0W=>k_is)
  (case k0W=>k_is)
  (case i0W=>k_is)
  (case l29=>k_is)
  (case b29=>k_is)
  (case k29=>k_is)
  (case l23=>k_is)
  (case b23=>k_is)
  (case k23=>k_is)
  (case l25=>k_is)
  (case b25=>k_is)
  (case k25=>k_is)
  (case l24=>k_is)
  (case b24=>k_is)
  (case k24=>k_is)
  (case l1P=>k_is)
  (case b1P=>k_is)
  (case k1P=>k_is)
  (case l1x=>k_is)
  (case b1x=>k_is)
  (case k1x=>k_is)
  (case i1x=>k_is)
  (case l1W=>k_is)
  (case b1W=>k_is)
  (case k1W=>k_is)
  (case l1U=>k_is)
  (case b1U=>k_is)
  (case k1U=>k_is)
  (case l1V=>k_is)
  (case b1V=>k_is)
  (case k1V=>k_is)
  (case l1Y=>k_is)
  (case b1Y=>k_is)
  (case k1Y=>k_is)
  (case l0l=>k_is)
  (case b0l=>k_is)
  (case k0l=>k_is)
  (case i0l=>k_is)
  (case l0a=>k_is)
  (case b0a=>k_is)
  (case k0a=>k_is)
  (case i0a=>k_is)
  (case l09=>k_is)
  (case b09=>k_is)
  (case k09=>k_is)
  (case i09=>k_is)
  (case l0e=>k_is)
  (case b0e=>k_is)
  (case k0e=>k_is)
  (case i0e=>k_is)
  (case l0o=>k_is)
  (case b0o=>k_is)
  (case k0o=>k_is)
  (case i0o=>k_is)
  (case l0c=>k_is)
  (case b0c=>k_is)
  (case k0c=>k_is)
  (case i0c=>k_is)
  (case l0d=>k_is)
  (case b0d=>k_is)
  (case k0d=>k_is)
  (case i0d=>k_is)
  (case l0g=>k_is)
  (case b0g=>k_is)
  (case k0g=>k_is)
  (case i0g=>k_is)
  (case l0h=>k_is)
  (case b0h=>k_is)
  (case k0h=>k_is)
  (case i0h=>k_is)
  (case l0b=>k_is)
  (case b0b=>k_is)
  (case k0b=>k_is)
  (case i0b=>k_is)
  (case l0f=>k_is)
  (case b0f=>k_is)
  (case k0f=>k_is)
  (case i0f=>k_is)
  (case l0m=>k_is)
  (case b0m=>k_is)
  (case k0m=>k_is)
  (case i0m=>k_is)
  (case l0j=>k_is)
  (case b0j=>k_is)
  (case k0j=>k_is)
  (case i0j=>k_is)
  (case l1R=>k_is)
  (case b1R=>k_is)
  (case k1R=>k_is)
  (case l05=>k_is)
  (case b05=>k_is)
  (case k05=>k_is)
  (case i05=>k_is)
  (case l1T=>k_is)
  (case b1T=>k_is)
  (case k1T=>k_is)
  (case l1Q=>k_is)
  (case b1Q=>k_is)
  (case k1Q=>k_is)
  (case l22=>k_is)
  (case b22=>k_is)
  (case k22=>k_is)
  (case l1b=>k_is)
  (case b1b=>k_is)
  (case k1b=>k_is)
  (case i1b=>k_is)
  (case l1e=>k_is)
  (case b1e=>k_is)
  (case k1e=>k_is)
  (case i1e=>k_is)
  (case l1d=>k_is)
  (case b1d=>k_is)
  (case k1d=>k_is)
  (case i1d=>k_is)
  (case l15=>k_is)
  (case b15=>k_is)
  (case k15=>k_is)
  (case i15=>k_is)
  (case l1a=>k_is)
  (case b1a=>k_is)
  (case k1a=>k_is)
  (case i1a=>k_is)
  (case l19=>k_is)
  (case b19=>k_is)
  (case k19=>k_is)
  (case i19=>k_is)
  (case l27=>k_is)
  (case b27=>k_is)
  (case k27=>k_is)
  (case l28=>k_is)
  (case b28=>k_is)
  (case k28=>k_is)
  (case l2b=>k_is)
  (case b2b=>k_is)
  (case k2b=>k_is)
  (case pg1v=>k_is)
  (case hd1v=>k_is)
  (case po1v=>k_is)
  (case sa1v=>k_is)
  (case mk1v=>k_is)
  (case kc1v=>k_is)
  (case n1y=>k_is)
  (case n1z=>k_is)
  (case n1w=>k_is)
  (case pg08=>k_is)
  (case hd08=>k_is)
  (case po08=>k_is)
  (case sa08=>k_is)
  (case mk08=>k_is)
  (case kc08=>k_is)
  (case n0q=>k_is)
  (case n0p=>k_is)
  (case n0r=>k_is)
  (case n0n=>k_is)
  (case n0k=>k_is)
  (case n0i=>k_is)
  (case pg0U=>k_is)
  (case hd0U=>k_is)
  (case po0U=>k_is)
  (case sa0U=>k_is)
  (case mk0U=>k_is)
  (case kc0U=>k_is)
  (case n0Y=>k_is)
  (case n0Z=>k_is)
  (case n0X=>k_is)
  (case n0V=>k_is)
  (case pg03=>k_is)
  (case hd03=>k_is)
  (case po03=>k_is)
  (case sa03=>k_is)
  (case mk03=>k_is)
  (case kc03=>k_is)
  (case n04=>k_is)
  (case n06=>k_is)
  (case n07=>k_is)
  (case pg14=>k_is)
  (case hd14=>k_is)
  (case po14=>k_is)
  (case sa14=>k_is)
  (case mk14=>k_is)
  (case kc14=>k_is)
  (case n1f=>k_is)
  (case n16=>k_is)
  (case n1c=>k_is)
  (case n1g=>k_is)
  (case n18=>k_is)
  (case n17=>k_is)
  (case x1h=>kernel_rfl)
  (case sa1h=>k_is)
  (case ga1h=>k_is)
  (case gh1h=>k_is)
  (case u1h=>kernel_rfl)
  (case kc1h=>k_is)
  (case n1j=>k_is)
  (case n1k=>k_is)
  (case x1r=>kernel_rfl)
  (case sa1r=>k_is)
  (case ga1r=>k_is)
  (case gh1r=>k_is)
  (case u1r=>kernel_rfl)
  (case kc1r=>k_is)
  (case n1t=>k_is)
  (case n1u=>k_is)
  (case x1K=>kernel_rfl)
  (case sa1K=>k_is)
  (case ga1K=>k_is)
  (case gh1K=>k_is)
  (case u1K=>kernel_rfl)
  (case kc1K=>k_is)
  (case n1M=>k_is)
  (case n1N=>k_is)
  (case x1G=>kernel_rfl)
  (case sa1G=>k_is)
  (case ga1G=>k_is)
  (case gh1G=>k_is)
  (case u1G=>kernel_rfl)
  (case kc1G=>k_is)
  (case n1I=>k_is)
  (case n1J=>k_is)
  (case x0D=>kernel_rfl)
  (case sa0D=>k_is)
  (case ga0D=>k_is)
  (case gh0D=>k_is)
  (case u0D=>kernel_rfl)
  (case kc0D=>k_is)
  (case n0F=>k_is)
  (case n0G=>k_is)
  (case x0Q=>kernel_rfl)
  (case sa0Q=>k_is)
  (case ga0Q=>k_is)
  (case gh0Q=>k_is)
  (case u0Q=>kernel_rfl)
  (case kc0Q=>k_is)
  (case n0S=>k_is)
  (case n0T=>k_is)
  (case x1A=>kernel_rfl)
  (case sa1A=>k_is)
  (case ga1A=>k_is)
  (case gh1A=>k_is)
  (case u1A=>kernel_rfl)
  (case kc1A=>k_is)
  (case n1C=>k_is)
  (case n1D=>k_is)
  (case cg=>k_is)
  (case cr=>k_is)
  (case cf=>k_is)
  (case g1q=>k_is)
  (case g0C=>k_is)
  (case g12=>k_is)
  (case g02=>k_is)
  (case g10=>k_is)
  (case g0x=>k_is)
  (case g0s=>k_is)
  (case g0H=>k_is)
  (case g1O=>k_is)
  (case g01=>k_is)
  (case g1E=>k_is)
  (case g0B=>k_is)
  (case g13=>k_is)
  (case g0L=>k_is)
  (case g0J=>k_is)
  (case g0O=>k_is)
  (case g0N=>k_is)
  (case g0K=>k_is)
  (case g0I=>k_is)
  (case g1Z=>k_is)
  (case g26=>k_is)
  (case g21=>k_is)
  (case g2d=>k_is)
  (case g1F=>k_is)
  (case h1F=>kernel_rfl)
  (case g1l=>k_is)
  (case h1l=>kernel_rfl)
  (case g00=>k_is)
  (case h00=>kernel_rfl)
  (case g0t=>k_is)
  (case h0t=>k_is)
  (case s0t=>rfl)
  (case g0w=>k_is)
  (case h0w=>k_is)
  (case s0w=>rfl)
  (case p0t=>repeat' (first | exact .nil | refine .cons ⟨(by kernel_rfl),(by kernel_rfl),⟨_,rfl⟩⟩ ?_))
  (case p0w=>repeat' (first | exact .nil | refine .cons ⟨(by kernel_rfl),(by kernel_rfl),(show DictEntry.val _=Value.ref _ by kernel_rfl)⟩ ?_))
  (case q0w=>kernel_rfl)
  (case g0z=>k_is)
  (case h0z=>k_is)
  (case s0z=>rfl)
  (case p0z=>repeat' (first | exact .nil | refine .cons ⟨(by kernel_rfl),(by kernel_rfl),⟨_,rfl⟩⟩ ?_))
  (case x1m=>kernel_rfl)
  (case sa1m=>k_is)
  (case ga1m=>k_is)
  (case gh1m=>k_is)
  (case u1m=>kernel_rfl)
  (case kc1m=>k_is)
  (case n1o=>k_is)
  (case n1p=>k_is)
 case S=>
  intro K H xs a hO hwi hask hx
  cases hx with
  | cons h1 h2=>
   cases h2 with
   | cons h2 h3=>
   cases h3
   cases h1 with
   | lst hs ha=>
   cases h2 with
   | lst hs2 ha2=>
    have e:=L2.qca a.1 _ ha
    subst e
    have e2:=L2.qca a.2.1 _ ha2
    subst e2
    have q:((Codec.inLen 0 4096 a.1&&a.1.all (Codec.inInt 0 255))&&((Codec.inLen 0 4096 a.2.1&&a.2.1.all (Codec.inInt 0 255))&&true))=true:=hwi
    simp only [Bool.and_eq_true] at q
    have hb:NeutralIO.bytes a.1=true:=List.all_eq_true.mpr fun x hx=>by
     have:=List.all_eq_true.mp q.1.2 x hx
     exact this
    have hb2:NeutralIO.bytes a.2.1=true:=List.all_eq_true.mpr fun x hx=>by
     have:=List.all_eq_true.mp q.2.1.2 x hx
     exact this
    refine ⟨_,_,VastoaNeutral.text a.1,VastoaNeutral.text a.2.1,rfl,?_,?_,fun H' p hp=>.lst (L2.SqL.of hp) ?_⟩
    ·rw [RT.qfF a.1 hb]; exact hs
    ·rw [RT.qfF a.2.1 hb2]; exact hs2
    ·rw [RT.qir a.1 a.2.1 hb hb2]; exact L2.qfr _
